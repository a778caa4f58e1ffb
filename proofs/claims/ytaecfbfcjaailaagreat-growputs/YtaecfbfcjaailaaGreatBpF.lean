/-
  Texts laid together: GrowUp GrowPair LookStep LookVisit LookPairs LookGetsOf LookFind LookGet GrowGet GrowPutM GrowAllM AllocRefNew GrowEmpty GrowLaw LookOpen GrowIn GrowTwo GrowOnly GrowAfter.
-/
import Derived.Test.YtaecfbfcjaailaaGreatBpE
import Derived.Test.YtaecfbfcjaailaaGreatBpC
import Derived.Test.YtaecfbfcjaailaaGreatBpD
import Derived.Test.YtaecfbfcjaailaaGreatBpA
import Derived.Lib.AppendZeros
import Derived.Deep.RegionHeld3
import Derived.Lib.SmallJoins
import Derived.Maps.RangeWalk
namespace Go.Proofs.YtaecfbfcjaailaaGreat
open Go.RowKit Plain
set_option linter.unusedVariables false
def WayIn (w : World) (g : Nat) (ms : List MStep) : Prop := ∀ (j : Nat) (m : MStep), ms[j]? = some m → w.cell? ⟨g, j * 6, none⟩ = some (.int .i64 m.block) ∧ w.cell? ⟨g, j * 6 + 1, none⟩ = some (.bool m.l) ∧ w.cell? ⟨g, j * 6 + 2, none⟩ = some (.slice m.a1 m.k1 m.d1) ∧ w.cell? ⟨g, j * 6 + 3, none⟩ = some (.slice m.a2 m.k2 m.d2) ∧ w.cell? ⟨g, j * 6 + 4, none⟩ = some (.slice m.a3 m.k3 m.d3) ∧ w.cell? ⟨g, j * 6 + 5, none⟩ = some (.int .i64 m.kid)
theorem owned_way {w : World} {B g n cap : Nat} {ms : List MStep} (h : w.ownsRow B 105 6 (.slice (some ⟨g, 0, none⟩) n cap) n (cellsM ms)) : WayIn w g ms := by
 intro j m hm
 have at_ : ∀ t v, t < 6 → m.cells[t]? = some v → w.cell? ⟨g, j * 6 + t, none⟩ = some v := fun t v ht hv => by
  have := h.cells (g := g) rfl (j * 6 + t) v (by rw [cellsM_at hm t ht]; exact hv)
  rw [at_add] at this
  simpa using this
 exact ⟨at_ 0 _ (by omega) rfl, at_ 1 _ (by omega) rfl, at_ 2 _ (by omega) rfl, at_ 3 _ (by omega) rfl, at_ 4 _ (by omega) rfl, at_ 5 _ (by omega) rfl⟩
theorem WayIn.turns {P : Nat → Prop} {w w' : World} {g : Nat} {ms : List MStep} (h : WayIn w g ms) (t : Turns P w w') (hp : ¬ P g) : WayIn w' g ms := by
 intro j m hm
 obtain ⟨h0, h1, h2, h3, h4, h5⟩ := h j m hm
 exact ⟨t.cell (p := ⟨g, j * 6, none⟩) hp h0, t.cell (p := ⟨g, j * 6 + 1, none⟩) hp h1, t.cell (p := ⟨g, j * 6 + 2, none⟩) hp h2, t.cell (p := ⟨g, j * 6 + 3, none⟩) hp h3, t.cell (p := ⟨g, j * 6 + 4, none⟩) hp h4, t.cell (p := ⟨g, j * 6 + 5, none⟩) hp h5⟩
theorem replace_row (G : WoodS) (b : Int) (n : NodeS) : (replaceG G b n).2.1.1.length ≤ 1 ∧ (replaceG G b n).2.1.2.length ≤ 2 := by
 unfold replaceG
 split
 ·
  exact ⟨by simp, by simp⟩
 ·
  split
  ·
   split
   ·
    exact ⟨by simp, by simp⟩
   ·
    exact ⟨by simp, by simp⟩
  ·
   exact ⟨by simp, by simp⟩
theorem take_rev {ss : List StepS} {m : Nat} {s : StepS} (h : ss[m]? = some s) : (ss.take (m + 1)).reverse = s :: (ss.take m).reverse := by
 rw [List.take_add_one, h]
 simp
def LaidR (V0 V : World) (h q cp : Nat) (b b' : Option Addr) (R : Int × (List ByteArray × List Int) × WoodS) (g8 : Nat) (b1 : Option Addr) (e1 : Nat) (b2 : Option Addr) (e2 : Nat) (ak : Option Addr) (kk dk : Nat) (ac : Option Addr) (kc dc : Nat) : Prop :=
 Box4 V g8 (.bool false) (.slice ak kk dk) (.slice none 0 0) (.slice ac kc dc) ∧ V0.heap.size ≤ g8 ∧ (kk = R.2.1.1.length ∧ kc = R.2.1.2.length) ∧ (IsS V ak dk R.2.1.1 ∧ IsI V ac dc R.2.1.2) ∧ (From V0.heap.size ak ∧ From V0.heap.size ac) ∧ GrowAt V h q cp b1 e1 b2 e2 R.2.2 ∧ (Newer V0 b b1 ∧ Newer V0 b' b2) ∧ Turns (Mine h q) V0 V
def GrowC (w : World) (x : Ending) (w' : World) (h q cp : Nat) (a a' : Option Addr) (R : Int × WoodS) : Prop :=
 ∃ b1 e1 b2 e2, x = .returned (.int .i64 R.1) ∧ GrowAt w' h q cp b1 e1 b2 e2 R.2 ∧ (Newer w a b1 ∧ Newer w a' b2) ∧ Turns (Mine h q) w w'
theorem growC_of {w w' : World} {x : Ending} {h q cp : Nat} {a a' : Option Addr} {E : Int} {G : WoodS} {b1 : Option Addr} {e1 : Nat} {b2 : Option Addr} {e2 : Nat} (hx : x = .returned (.int .i64 E)) (g : GrowAt w' h q cp b1 e1 b2 e2 G) (n1 : Newer w a b1) (n2 : Newer w a' b2) (t : Turns (Mine h q) w w') : GrowC w x w' h q cp a a' (E, G) := ⟨b1, e1, b2, e2, hx, g, ⟨n1, n2⟩, t⟩
set_option maxRecDepth 20000 in
set_option maxHeartbeats 4000000 in
theorem up_any (h q cp : Nat) (a : Option Addr) (c : Nat) (a' : Option Addr) (c' : Nat) (G0 : WoodS) (g0 N cap : Nat) (mss : List MStep) (ss : List StepS) (l0 : Bool) (a1 : Option Addr) (k01 d01 : Nat) (a2 : Option Addr) (k02 d02 : Nat) (a3 : Option Addr) (k03 d03 : Nat) (ks0 vs0 : List ByteArray) (cs0 : List Int) (w : World)
  (GA0 : GrowAt w h q cp a c a' c' G0) (hN : N = ss.length) (hN1 : 1 ≤ N) (hN8 : N ≤ 8) (hcap : N ≤ cap) (hcm : cap ≤ maxLen) (WI : WayIn w g0 mss) (hg0 : g0 ≠ h ∧ g0 ≠ q ∧ g0 < w.heap.size) (RS : Reps w h q mss ss) (hok : Ok G0) (hhas : ∀ s ∈ ss, G0.has s.1 ∧ 10 ≤ s.1) (hnd : (ss.map (·.1)).Nodup)
  (hin : ∀ (j : Nat) (s : StepS), j + 1 < ss.length → ss[j]? = some s → s.2.2 ≤ s.2.1.2.1.length ∧ s.2.2 + 1 ≤ s.2.1.2.2.2.length ∧ s.2.1.2.1.length ≤ 9 ∧ s.2.1.2.2.2.length ≤ 10)
  (N0 : NodeR w h q a1 k01 d01 a2 k02 d02 a3 k03 d03 ks0 vs0 cs0) :
  Calls Tryz.prog 56 #[.pointer (some ⟨h, 0, none⟩), .slice (some ⟨g0, 0, none⟩) N cap, .agg #[.bool l0, .slice a1 k01 d01, .slice a2 k02 d02, .slice a3 k03 d03]] w fun x w' => GrowC w x w' h q cp a a' (upG N ss.reverse G0 (l0, ks0, vs0, cs0)) := by
 obtain ⟨W, hW⟩ : ∃ W, W = w.alloc (.cells #[.bool l0, .slice a1 k01 d01, .slice a2 k02 d02, .slice a3 k03 d03] 76) := ⟨_, rfl⟩
 have BX0 : Box4 W w.heap.size (.bool l0) (.slice a1 k01 d01) (.slice a2 k02 d02) (.slice a3 k03 d03) := by rw [hW]; exact box4_new _ _ _ _ _ _ rfl
 have HB : Below w.heap.size w W := by rw [hW]; exact (Below.refl _ _).alloc (Nat.le_refl _) _
 have hh : h < w.heap.size := GA0.lt
 have hqq : q < w.heap.size := GA0.pg.lt
 have LB := GA0.lb
 have LN := GA0.ln
 have hWs : W.heap.size = w.heap.size + 1 := by rw [hW]; simp
 have off5 : ¬ Mine h q w.heap.size := by unfold Mine; omega
 have offg : ¬ Mine h q g0 := by unfold Mine; omega
 obtain ⟨R, hR⟩ : ∃ R, R = upG N ss.reverse G0 (l0, ks0, vs0, cs0) := ⟨_, rfl⟩
 rw [← hR]
 have HR : Hid (R = upG N ss.reverse G0 (l0, ks0, vs0, cs0)) := hR
 have HSS : Hid (N = ss.length) := hN
 have HIN : Hid (∀ (j : Nat) (s : StepS), j + 1 < ss.length → ss[j]? = some s → s.2.2 ≤ s.2.1.2.1.length ∧ s.2.2 + 1 ≤ s.2.1.2.2.2.length ∧ s.2.1.2.1.length ≤ 9 ∧ s.2.1.2.2.2.length ≤ 10) := hin
 have HND : Hid ((ss.map (·.1)).Nodup) := hnd
 have RSw : Hid (Reps w h q mss ss) := RS
 have WIw := WI
 have HI0 : Hid (R = upG N ((ss.take N).reverse) G0 (l0, ks0, vs0, cs0) ∧ Ok G0 ∧ (∀ s ∈ ss.take N, G0.has s.1 ∧ 10 ≤ s.1) ∧ NodeR W h q a1 k01 d01 a2 k02 d02 a3 k03 d03 ks0 vs0 cs0 ∧ GrowAt W h q cp a c a' c' G0) := ⟨by rw [hR, hN, List.take_length], hok, fun s hs => hhas s (List.mem_of_mem_take hs), N0.below HB, GA0.below HB⟩
 have hNi : (1 : Int) ≤ N := by omega
 have hN8i : (N : Int) ≤ 8 := by omega
 clear hR hN hin hnd RS hok hhas N0 WI
 go_enter Tryz.func56, Tryz.ntmps56
 go_wp2
 rw [← hW]
 go_loopw [7] (fun v wr => ∃ (j : Nat) (G : WoodS) (l : Bool) (ks vs : List ByteArray) (cs : List Int) (b1 : Option Addr) (e1 : Nat) (b2 : Option Addr) (e2 : Nat) (x1 : Option Addr) (k1 d1 : Nat) (x2 : Option Addr) (k2 d2 : Nat) (x3 : Option Addr) (k3 d3 : Nat), v = .int .i64 ((j : Int) - 1) ∧ j ≤ N ∧ R = upG N ((ss.take j).reverse) G (l, ks, vs, cs) ∧ Ok G ∧ (∀ s ∈ ss.take j, G.has s.1 ∧ 10 ≤ s.1) ∧ (j = 0 → ∃ y ys, cs = y :: ys) ∧ Box4 wr w.heap.size (.bool l) (.slice x1 k1 d1) (.slice x2 k2 d2) (.slice x3 k3 d3) ∧ NodeR wr h q x1 k1 d1 x2 k2 d2 x3 k3 d3 ks vs cs ∧ GrowAt wr h q cp b1 e1 b2 e2 G ∧ (Newer W a b1 ∧ Newer W a' b2) ∧ Turns (Mine h q) w wr) (fun v _ => (intOf v + 1).toNat)
 case atStart => exact ⟨N, G0, l0, ks0, vs0, cs0, a, c, a', c', a1, k01, d01, a2, k02, d02, a3, k03, d03, by simp, Nat.le_refl _, HI0.out.1, HI0.out.2.1, HI0.out.2.2.1, fun e => absurd e (by omega), BX0, HI0.out.2.2.2.1, HI0.out.2.2.2.2, ⟨newer_refl _ _, newer_refl _ _⟩, Turns.of_below HB⟩
 case round =>
  obtain ⟨j, G, l, ks, vs, cs, b1, e1, b2, e2, x1, k1, d1, x2, k2, d2, x3, k3, d3, rfl, hj, hRj, hok, hhas, hne, BX, nr, GA, ⟨nw1, nw2⟩, TT⟩ := hrel
  have NR : Hid (NodeR wr h q x1 k1 d1 x2 k2 d2 x3 k3 d3 ks vs cs) := nr
  have HRj : Hid (R = upG N ((ss.take j).reverse) G (l, ks, vs, cs)) := hRj
  have HOK : Hid (Ok G ∧ (∀ s ∈ ss.take j, G.has s.1 ∧ 10 ≤ s.1) ∧ (j = 0 → ∃ y ys, cs = y :: ys)) := ⟨hok, hhas, hne⟩
  have WI := WIw.turns TT offg
  clear hRj hok hhas hne nr HR HI0
  cases j with
  | zero =>
   have em : (((0 : Nat) : Int) - 1) = (-1 : Int) := by omega
   rw [em]
   have hR0 : R = if ks.length = 0 then (0, G.withRoot (cs.getD 0 0)) else if N = 8 then (81, G) else plantG G (l, ks, vs, cs) := by
    rw [HRj.out]
    show upG N [] G (l, ks, vs, cs) = _
    rw [upG]
   obtain ⟨⟨q0, q1, q2, q3⟩, -⟩ := id BX
   obtain ⟨y0, y1, y2, y3, y4⟩ := id GA.box
   have hf3 := GA.f3
   have hk1 := NR.out.e1
   have hk3 := NR.out.e3
   have hwW : w.heap.size ≤ W.heap.size := by omega
   have mk1 : k1 ≤ 9223372036854775807 := by rw [hk1]; exact Nat.le_trans NR.out.i1.1 NR.out.i1.2.1
   have mk3 : k3 ≤ 9223372036854775807 := by rw [hk3]; exact Nat.le_trans NR.out.i3.1 NR.out.i3.2.1
   by_cases hks : ks.length = 0
   ·
    obtain ⟨y, ys, rfl⟩ := HOK.out.2.2 rfl
    rw [if_pos hks] at hR0
    have hR1 : R = (0, G.withRoot y) := hR0
    subst hR1
    obtain ⟨bz, oz, ez, -, hcz⟩ := NR.out.i3.2.2 0 y rfl
    subst ez
    have hk10 : ((k1 : Int) == 0) = true := by rw [hk1, hks]; rfl
    have hk30 : (0 : Int) < k3 := by rw [hk3]; simp
    have hk1' : k1 = 0 := by rw [hk1, hks]
    subst hk1'
    simp only [Nat.add_zero] at hcz
    clear hks hk1 hk3 hR0 em
    go_wp2
    go_ret
    exact growC_of rfl (GA.setRoot y).1 (nw1.low hwW) (nw2.low hwW) (TT.trans (GA.setRoot y).2)
   ·
    rw [if_neg hks] at hR0
    have hk10 : ((k1 : Int) == 0) = false := by rw [beq_eq_false_iff_ne, hk1]; omega
    by_cases hN8e : N = 8
    ·
     rw [if_pos hN8e] at hR0
     subst hR0
     have hN8' : ((N : Int) == 8) = true := by rw [hN8e]; rfl
     clear hks hk1 hk3 em hN8e
     go_wp2
     go_ret
     exact growC_of rfl GA (nw1.low hwW) (nw2.low hwW) TT
    ·
     rw [if_neg hN8e] at hR0
     have hN8' : ((N : Int) == 8) = false := by rw [beq_eq_false_iff_ne]; omega
     have cP := plant_any h q cp b1 e1 b2 e2 G l x1 k1 d1 x2 k2 d2 x3 k3 d3 ks vs cs wr GA (fun _ => HOK.out.1.len) NR.out
     rw [← hR0] at cP
     obtain ⟨rE, rG⟩ := R
     clear hks hk1 hk3 hR0 em hN8e
     go_wp2_with (go_at_call 53; refine cP.mono ?_; rintro y w2 ⟨c1, f1, c2, f2, rfl, GA4, ⟨v1, v2⟩, T4⟩; clear q0 q1 q2 q3 y0 y1 y2 y3 y4)
     go_ret
     exact growC_of rfl GA4 ((nw1.trans v1 (by have := TT.size; have := BX.lt; omega)).low hwW) ((nw2.trans v2 (by have := BX.lt; omega)).low hwW) (TT.trans T4)
  | succ m =>
   have em : ((m + 1 : Nat) : Int) - 1 = (m : Int) := by omega
   rw [em]
   have hmN : m < ss.length := by rw [← HSS.out]; omega
   obtain ⟨s, hs⟩ : ∃ s, Hid (ss[m]? = some s) := ⟨_, List.getElem?_eq_getElem hmN⟩
   obtain ⟨ms0, hms⟩ : ∃ ms0, Hid (mss[m]? = some ms0) := ⟨_, List.getElem?_eq_getElem (by rw [RSw.out.1]; exact hmN)⟩
   obtain ⟨hb0, hb1, hb2, hb3⟩ := RSw.out.2 m ms0 s hms.out hs.out
   obtain ⟨hsh, hs10⟩ := HOK.out.2.1 s (List.mem_of_getElem? (i := m) (by rw [List.getElem?_take_of_lt (by omega)]; exact hs.out))
   obtain ⟨bl, hbl⟩ : ∃ bl : Nat, s.1 = (bl : Int) := ⟨s.1.toNat, by have := hsh.1; omega⟩
   have hblk : Hid (ms0.block = (bl : Int)) := hb0.trans hbl
   obtain ⟨RR, hRR⟩ : ∃ RR, RR = replaceG G bl (l, ks, vs, cs) := ⟨_, rfl⟩
   have hl1 := (rightA_iff _ _).1 HOK.out.1.alloc
   have hltb : bl < G.now.length := by have := has_lt hsh; omega
   have cR : ∀ V, GrowAt V h q cp b1 e1 b2 e2 G → NodeR V h q x1 k1 d1 x2 k2 d2 x3 k3 d3 ks vs cs → Calls Tryz.prog 70 #[.pointer (some ⟨h, 0, none⟩), .int .i64 bl, .agg #[.bool l, .slice x1 k1 d1, .slice x2 k2 d2, .slice x3 k3 d3]] V fun x w' => ReplC V x w' h q cp b1 b2 RR := fun V g n => by
    rw [hRR]
    exact replace_any h q cp b1 e1 b2 e2 G bl l x1 k1 d1 x2 k2 d2 x3 k3 d3 ks vs cs V g (by omega) (by rw [HOK.out.1.len]; exact hltb) (fun _ => HOK.out.1.len) n
   have HRR : Hid (RR = replaceG G s.1 (l, ks, vs, cs)) := by show _ = _; rw [hRR, hbl]
   have HSB : Hid (s.1 = (bl : Int)) := hbl
   have hmi : (m : Int) < N := by omega
   have hm0 : (0 : Int) ≤ m := by omega
   have hNc : (N : Int) ≤ 9223372036854775807 := by omega
   obtain ⟨z0, -⟩ := WI m ms0 hms.out
   rw [hblk.out] at z0
   obtain ⟨⟨q0, q1, q2, q3⟩, -⟩ := id BX
   clear hb0 hb1 hb2 hb3 hsh hs10 hbl hRR hl1 hltb em
   go_wp2
   obtain ⟨V0, hV0⟩ : ∃ X, X = wr.drew := ⟨_, rfl⟩
   have hD0 : Below wr.heap.size wr V0 := by rw [hV0]; exact (Below.refl _ _).drew
   replace GA := GA.below hD0
   replace NR : Hid (NodeR V0 h q x1 k1 d1 x2 k2 d2 x3 k3 d3 ks vs cs) := NR.out.below hD0
   replace BX := BX.below hD0
   replace WI := WI.turns (Turns.of_below (P := fun _ => False) hD0) id
   replace TT := TT.tr hD0
   clear q0 q1 q2 q3 z0 hD0
   obtain ⟨⟨q0, q1, q2, q3⟩, -⟩ := id BX
   obtain ⟨z0, -⟩ := WI m ms0 hms.out
   rw [hblk.out] at z0
   have HV0 : Hid (V0 = wr.drew) := hV0
   have hb5 : w.heap.size < V0.heap.size := BX.lt
   have hg0V : g0 < V0.heap.size := cell_lt z0
   clear hV0
   refine (fun (key : Hid (∀ V g8 b3 e3 b4 e4 ak kk dk ac kc dc, LaidR V0 V h q cp b1 b2 RR g8 b3 e3 b4 e4 ak kk dk ac kc dc → (?propR : World → Nat → Option Addr → Nat → Option Addr → Nat → Option Addr → Nat → Nat → Option Addr → Nat → Nat → Prop) V g8 b3 e3 b4 e4 ak kk dk ac kc dc)) => ?regR) ?kontR
   case regR =>
    refine wp_region_noPanic ?_
    refine wp_region_held_drew (S := fun V => V.cell? ⟨g0, m * 6, none⟩ = some (.int .i64 bl) ∧ (V.cell? ⟨w.heap.size, 0, none⟩ = some (.bool l) ∧ V.cell? ⟨w.heap.size, 1, none⟩ = some (.slice x1 k1 d1) ∧ V.cell? ⟨w.heap.size, 2, none⟩ = some (.slice x2 k2 d2) ∧ V.cell? ⟨w.heap.size, 3, none⟩ = some (.slice x3 k3 d3))) (by kernel_rfl) (by rw [← HV0.out]; exact ⟨z0, q0, q1, q2, q3⟩) (fun hHeld => ?_)
    rw [← HV0.out] at hHeld ⊢
    refine take_at (i := 0) (v := ?_) rfl (by kernel_rfl) (by kernel_rfl) (by kernel_rfl) (fun _ _ _ h => h) (Or.inl ⟨by rfl, ?_⟩) (by assumption) ?_
    rotate_left 1
    ·
     (intro w hSw; (try dsimp only at hSw); go_simp; (try with_reducible rfl))
    try go_frame
    refine take_at (i := 1) (v := ?_) rfl (by kernel_rfl) (by kernel_rfl) (by kernel_rfl) (fun _ _ _ h => h) (Or.inl ⟨by rfl, ?_⟩) (by assumption) ?_
    rotate_left 1
    ·
     (intro w hSw; (try dsimp only at hSw); go_simp; (try with_reducible rfl))
    try go_frame
    refine take_at (i := 2) (v := ?_) rfl (by kernel_rfl) (by kernel_rfl) (by kernel_rfl) (fun _ _ _ h => h) (Or.inl ⟨by rfl, ?_⟩) (by assumption) ?_
    rotate_left 1
    ·
     (intro w hSw; (try dsimp only at hSw); go_simp; (try with_reducible rfl))
    try go_frame
    refine take_at (i := 3) (v := ?_) rfl (by kernel_rfl) (by kernel_rfl) (by kernel_rfl) (fun _ _ _ h => h) (Or.inl ⟨by rfl, ?_⟩) (by assumption) ?_
    rotate_left 1
    ·
     (intro w hSw; (try dsimp only at hSw); go_simp; (try with_reducible rfl))
    try go_frame
    refine take_at (i := 4) (v := ?_) rfl (by kernel_rfl) (by kernel_rfl) (by kernel_rfl) (fun _ _ _ h => h) (Or.inl ⟨by rfl, ?_⟩) (by assumption) ?_
    rotate_left 1
    ·
     (intro w hSw; (try dsimp only at hSw); go_simp; (try with_reducible rfl))
    try go_frame
    refine take_at (i := 5) (v := ?_) rfl (by kernel_rfl) (by kernel_rfl) (by kernel_rfl) (fun _ _ _ h => h) (Or.inl ⟨by rfl, ?_⟩) (by assumption) ?_
    rotate_left 1
    ·
     (intro w hSw; (try dsimp only at hSw); go_simp; (try with_reducible rfl))
    try go_frame
    refine take_at (i := 6) (v := ?_) rfl (by kernel_rfl) (by kernel_rfl) (by kernel_rfl) (fun _ _ _ h => h) (Or.inl ⟨by rfl, ?_⟩) (by assumption) ?_
    rotate_left 1
    ·
     (intro w hSw; (try dsimp only at hSw); go_simp; (try with_reducible rfl))
    try go_frame
    refine wpAnyH_ready (rs := [7, 11]) (by kernel_rfl) (by simp) ?_
    refine cons_at (i := 7) rfl (fun K hK => ?callFirst) (cons_at (i := 11) rfl (fun K hK => ?allocFirst) AllReadyH.nil)
    case callFirst =>
     go_simp
     go_at_call 70
     refine (cR V0 GA NR.out).mono ?_
     rintro y u ⟨b3, e3, b4, e4, ak, kk, dk, ac, kc, dc, rfl, ek, ec, ik, ic, fk, fc, GA2, nw, T2⟩
     have EK : Hid (kk = RR.2.1.1.length ∧ kc = RR.2.1.2.length) := ⟨ek, ec⟩
     clear ek ec
     have BXu := BX.turns T2 off5
     obtain ⟨⟨s0, s1, s2, s3⟩, -⟩ := id BXu
     have zu := T2.cell (p := ⟨g0, m * 6, none⟩) offg z0
     refine hK.out _ _ ?_ (fun hHeld2 => ?_)
     ·
      exact ⟨zu, s0, s1, s2, s3⟩
     clear hK K
     try go_frame
     refine take_at (i := 8) (v := ?_) rfl (by kernel_rfl) (by kernel_rfl) (by kernel_rfl) (fun _ _ _ h => h) (Or.inl ⟨by rfl, ?_⟩) (by assumption) ?_
     rotate_left 1
     ·
      (intro w hSw; (try dsimp only at hSw); go_simp; (try with_reducible rfl))
     try go_frame
     refine take_at (i := 9) (v := ?_) rfl (by kernel_rfl) (by kernel_rfl) (by kernel_rfl) (fun _ _ _ h => h) (Or.inl ⟨by rfl, ?_⟩) (by assumption) ?_
     rotate_left 1
     ·
      (intro w hSw; (try dsimp only at hSw); go_simp; (try with_reducible rfl))
     try go_frame
     refine take_at (i := 10) (v := ?_) rfl (by kernel_rfl) (by kernel_rfl) (by kernel_rfl) (fun _ _ _ h => h) (Or.inl ⟨by rfl, ?_⟩) (by assumption) ?_
     rotate_left 1
     ·
      (intro w hSw; (try dsimp only at hSw); go_simp; (try with_reducible rfl))
     try go_frame
     refine wpAnyH_ready (rs := [11]) (by kernel_rfl) (by simp) ?_
     refine cons_at (i := 11) rfl (fun K hK => ?_) AllReadyH.nil
     go_simp
     refine hK.out _ _ ?_ (fun hHeld3 => ?_)
     ·
      exact ⟨cell_alloc zu _, cell_alloc s0 _, cell_alloc s1 _, cell_alloc s2 _, cell_alloc s3 _⟩
     clear hK K
     try go_frame
     refine wpAnyH_ready (rs := [12]) (by kernel_rfl) (by simp) ?_
     refine cons_at (i := 12) rfl (fun K hK => ?_) AllReadyH.nil
     go_simp
     have hA := (Below.refl u.heap.size u).alloc (Nat.le_refl _) (.cells #[.bool false, .slice ak kk dk, .slice none 0 0, .slice ac kc dc] 76)
     have F : LaidR V0 (u.alloc (.cells #[.bool false, .slice ak kk dk, .slice none 0 0, .slice ac kc dc] 76)) h q cp b1 b2 RR u.heap.size b3 e3 b4 e4 ak kk dk ac kc dc := ⟨box4_new _ _ _ _ _ _ rfl, T2.size, EK.out, ⟨ik.below hA, ic.below hA⟩, ⟨fk, fc⟩, GA2.below hA, nw, T2.tr hA⟩
     refine hK.out _ _ ?_ (fun hHeld4 => ?_)
     ·
      exact ⟨cell_alloc zu _, cell_alloc s0 _, cell_alloc s1 _, cell_alloc s2 _, cell_alloc s3 _⟩
     clear hK K
     try go_frame
     refine take_at (i := 13) (v := ?_) rfl (by kernel_rfl) (by kernel_rfl) (by kernel_rfl) (fun _ _ _ h => h) (Or.inl ⟨by rfl, ?_⟩) (by assumption) ?_
     rotate_left 1
     ·
      (intro w hSw; (try dsimp only at hSw); go_simp; (try with_reducible rfl))
     try go_frame
     refine wpAnyH_done (by kernel_rfl) ?_ _
     refine NoPanic.normal ?_
     clear hHeld hHeld2 hHeld3 hHeld4 hA EK ik ic fk fc GA2 nw T2 BXu zu s0 s1 s2 s3
     generalize u.alloc (.cells #[.bool false, .slice ak kk dk, .slice none 0 0, .slice ac kc dc] 76) = V at F ⊢
     generalize u.heap.size = g8 at F ⊢
     exact key.out V g8 b3 e3 b4 e4 ak kk dk ac kc dc F
    case allocFirst =>
     go_simp
     refine hK.out _ _ ?_ (fun hHeld2 => ?_)
     ·
      exact ⟨cell_alloc z0 _, cell_alloc q0 _, cell_alloc q1 _, cell_alloc q2 _, cell_alloc q3 _⟩
     clear hK K
     try go_frame
     refine wpAnyH_ready (rs := [7]) (by kernel_rfl) (by simp) ?_
     refine cons_at (i := 7) rfl (fun K hK => ?_) AllReadyH.nil
     go_simp
     go_at_call 70
     have hA := (Below.refl V0.heap.size V0).alloc (Nat.le_refl _) (.cells #[.bool false, .slice none 0 0, .slice none 0 0, .slice none 0 0] 76)
     have bZ := box4_new V0 (.bool false) (.slice none 0 0) (.slice none 0 0) (.slice none 0 0) 76 rfl
     have LB0 := GA.lb
     have LN0 := GA.ln
     have hh0 := GA.lt
     have hq0 := GA.pg.lt
     refine (cR _ (GA.below hA) (NR.out.below hA)).mono ?_
     rintro y u ⟨b3, e3, b4, e4, ak, kk, dk, ac, kc, dc, rfl, ek, ec, ik, ic, fk, fc, GA2, ⟨nw1, nw2⟩, T2⟩
     have EK : Hid (kk = RR.2.1.1.length ∧ kc = RR.2.1.2.length) := ⟨ek, ec⟩
     clear ek ec
     have BXu := (BX.below hA).turns T2 off5
     obtain ⟨⟨s0, s1, s2, s3⟩, -⟩ := id BXu
     have zu := T2.cell (p := ⟨g0, m * 6, none⟩) offg (cell_below hA z0)
     have bZu := bZ.turns T2 (by show ¬ Mine h q V0.heap.size; unfold Mine; omega)
     obtain ⟨⟨y0, y1, y2, y3⟩, g0', g1', g2', g3'⟩ := id bZu
     refine hK.out _ _ ?_ (fun hHeld3 => ?_)
     ·
      exact ⟨zu, s0, s1, s2, s3⟩
     clear hK K
     try go_frame
     refine take_at (i := 8) (v := ?_) rfl (by kernel_rfl) (by kernel_rfl) (by kernel_rfl) (fun _ _ _ h => h) (Or.inl ⟨by rfl, ?_⟩) (by assumption) ?_
     rotate_left 1
     ·
      (intro w hSw; (try dsimp only at hSw); go_simp; (try with_reducible rfl))
     try go_frame
     refine take_at (i := 9) (v := ?_) rfl (by kernel_rfl) (by kernel_rfl) (by kernel_rfl) (fun _ _ _ h => h) (Or.inl ⟨by rfl, ?_⟩) (by assumption) ?_
     rotate_left 1
     ·
      (intro w hSw; (try dsimp only at hSw); go_simp; (try with_reducible rfl))
     try go_frame
     refine take_at (i := 10) (v := ?_) rfl (by kernel_rfl) (by kernel_rfl) (by kernel_rfl) (fun _ _ _ h => h) (Or.inl ⟨by rfl, ?_⟩) (by assumption) ?_
     rotate_left 1
     ·
      (intro w hSw; (try dsimp only at hSw); go_simp; (try with_reducible rfl))
     try go_frame
     refine wpAnyH_ready (rs := [12]) (by kernel_rfl) (by simp) ?_
     refine cons_at (i := 12) rfl (fun K hK => ?_) AllReadyH.nil
     go_simp
     have T4 := turns_put4 u V0.heap.size (.bool false) (.slice ak kk dk) (.slice none 0 0) (.slice ac kc dc)
     have hzA : (V0.alloc (.cells #[.bool false, .slice none 0 0, .slice none 0 0, .slice none 0 0] 76)).heap.size = V0.heap.size + 1 := by simp
     have hs2 := T2.size
     have F : LaidR V0 ((((u.setCell ⟨V0.heap.size, 0, none⟩ (.bool false)).setCell ⟨V0.heap.size, 1, none⟩ (.slice ak kk dk)).setCell ⟨V0.heap.size, 2, none⟩ (.slice none 0 0)).setCell ⟨V0.heap.size, 3, none⟩ (.slice ac kc dc)) h q cp b1 b2 RR V0.heap.size b3 e3 b4 e4 ak kk dk ac kc dc :=
      ⟨bZu.put _ _ _ _, Nat.le_refl _, EK.out, ⟨ik.turns T4 (fun x hx e => by have := fk x hx; omega), ic.turns T4 (fun x hx e => by have := fc x hx; omega)⟩, ⟨fk.mono (by omega), fc.mono (by omega)⟩, GA2.turns T4 (by omega) (by omega) (nw1.off LB0 (by omega) (by omega)) (nw2.off LN0 (by omega) (by omega)), ⟨nw1.low (by omega), nw2.low (by omega)⟩, ((Turns.of_below hA).trans T2).own T4 (fun k hk e => by omega)⟩
     refine hK.out _ _ ?_ (fun hHeld4 => ?_)
     ·
      exact ⟨T4.cell (p := ⟨g0, m * 6, none⟩) (by show ¬ g0 = _; omega) zu, T4.cell (p := ⟨w.heap.size, 0, none⟩) (by show ¬ w.heap.size = _; omega) s0, T4.cell (p := ⟨w.heap.size, 1, none⟩) (by show ¬ w.heap.size = _; omega) s1, T4.cell (p := ⟨w.heap.size, 2, none⟩) (by show ¬ w.heap.size = _; omega) s2, T4.cell (p := ⟨w.heap.size, 3, none⟩) (by show ¬ w.heap.size = _; omega) s3⟩
     clear hK K
     try go_frame
     refine take_at (i := 13) (v := ?_) rfl (by kernel_rfl) (by kernel_rfl) (by kernel_rfl) (fun _ _ _ h => h) (Or.inl ⟨by rfl, ?_⟩) (by assumption) ?_
     rotate_left 1
     ·
      (intro w hSw; (try dsimp only at hSw); go_simp; (try with_reducible rfl))
     try go_frame
     refine wpAnyH_done (by kernel_rfl) ?_ _
     refine NoPanic.normal ?_
     exact key.out _ _ b3 e3 b4 e4 ak kk dk ac kc dc F
   case kontR =>
    intro V g8 b3 e3 b4 e4 ak kk dk ac kc dc hF
    obtain ⟨B8, hg8, EK0, ⟨ik0, ic0⟩, ⟨fk, fc⟩, GA2, ⟨nw3, nw4⟩, T2⟩ := hF
    have EK : Hid (kk = RR.2.1.1.length ∧ kc = RR.2.1.2.length) := EK0
    have IK : Hid (IsS V ak dk RR.2.1.1 ∧ IsI V ac dc RR.2.1.2) := ⟨ik0, ic0⟩
    have hwV0 : W.heap.size ≤ V0.heap.size := by omega
    have nz3 := nw1.trans nw3 hwV0
    have nz4 := nw2.trans nw4 hwV0
    replace TT := TT.trans T2
    replace BX := BX.turns T2 off5
    replace WI := WI.turns T2 offg
    have hRs : Hid (R = if RR.1 = 0 ∧ RR.2.1.2 ≠ [s.1] then upG N ((ss.take m).reverse) RR.2.2 (nextN ((ss.take m).reverse) RR.2.1) else (RR.1, RR.2.2)) := by
     show _ = _
     rw [HRj.out, take_rev hs.out, upG, ← HRR.out]
    have hLo : Hid ((RR.1 = 60 ∨ RR.1 = 81) ∨ (RR.1 = 0 ∧ (∃ y ys, RR.2.1.2 = y :: ys ∧ 10 ≤ y ∧ y < G.now.length) ∧ Loose G RR.2.2 ∧ ∀ b, G.has b → b ≠ s.1 → RR.2.2.has b)) := by
     have hs0 := HOK.out.2.1 s (List.mem_of_getElem? (i := m) (by rw [List.getElem?_take_of_lt (by omega)]; exact hs.out))
     have := replace_loose (n := (l, ks, vs, cs)) HOK.out.1 hs0.1 hs0.2
     rw [← HRR.out] at this
     exact this
    have hRow : Hid (RR.2.1.1.length ≤ 1 ∧ RR.2.1.2.length ≤ 2) := by
     have := replace_row G s.1 (l, ks, vs, cs)
     rw [← HRR.out] at this
     exact this
    clear EK0 ik0 ic0 z0 q0 q1 q2 q3 nw3 nw4 nw1 nw2 HRj HV0 GA NR cR HRR
    obtain ⟨rE, ⟨rk, rc⟩, rG⟩ := RR
    simp only at *
    obtain ⟨z0, -⟩ := WI m ms0 hms.out
    rw [hblk.out] at z0
    obtain ⟨⟨r0, r1, r2, r3⟩, -⟩ := id B8
    by_cases hE : rE = 0
    ·
     subst hE
     have hg8lt : g8 < V.heap.size := B8.lt
     obtain ⟨V1, hV1⟩ : ∃ X, X = V.drew := ⟨_, rfl⟩
     have hD1 : Below V.heap.size V V1 := by rw [hV1]; exact (Below.refl _ _).drew
     have HV1 : Hid (V1 = V.drew) := hV1
     have cE : ∀ X g, Below V.heap.size V X → IsI X (some ⟨g, 0, none⟩) 1 [(bl : Int)] → Calls Tryz.prog 71 #[.slice ac kc dc, .slice (some ⟨g, 0, none⟩) 1 1] X fun e w' => e = .returned (.bool (decide (rc = [(bl : Int)]))) ∧ Below X.heap.size X w' := fun X g hX h1 => equal_one ac dc kc rc g bl X EK.out.2 (IK.out.2.below hX) h1
     have z1 := cell_below hD1 z0
     have r3' := cell_below hD1 r3
     clear hV1
     go_wp2
     refine wp_region_noPanic ?_
     refine wp_region_held_drew (S := fun X => X.cell? ⟨g0, m * 6, none⟩ = some (.int .i64 bl) ∧ X.cell? ⟨g8, 3, none⟩ = some (.slice ac kc dc)) (by kernel_rfl) (by rw [← HV1.out]; exact ⟨z1, r3'⟩) (fun hHeld => ?_)
     rw [← HV1.out] at hHeld ⊢
     refine take_at (i := 0) (v := ?_) rfl (by kernel_rfl) (by kernel_rfl) (by kernel_rfl) (fun _ _ _ h => h) (Or.inl ⟨by rfl, ?_⟩) (by assumption) ?_
     rotate_left 1
     ·
      (intro w hSw; (try dsimp only at hSw); go_simp; (try with_reducible rfl))
     try go_frame
     refine take_at (i := 1) (v := ?_) rfl (by kernel_rfl) (by kernel_rfl) (by kernel_rfl) (fun _ _ _ h => h) (Or.inl ⟨by rfl, ?_⟩) (by assumption) ?_
     rotate_left 1
     ·
      (intro w hSw; (try dsimp only at hSw); go_simp; (try with_reducible rfl))
     try go_frame
     refine take_at (i := 2) (v := ?_) rfl (by kernel_rfl) (by kernel_rfl) (by kernel_rfl) (fun _ _ _ h => h) (Or.inl ⟨by rfl, ?_⟩) (by assumption) ?_
     rotate_left 1
     ·
      (intro w hSw; (try dsimp only at hSw); go_simp; (try with_reducible rfl))
     try go_frame
     refine take_at (i := 3) (v := ?_) rfl (by kernel_rfl) (by kernel_rfl) (by kernel_rfl) (fun _ _ _ h => h) (Or.inl ⟨by rfl, ?_⟩) (by assumption) ?_
     rotate_left 1
     ·
      (intro w hSw; (try dsimp only at hSw); go_simp; (try with_reducible rfl))
     try go_frame
     refine take_at (i := 4) (v := ?_) rfl (by kernel_rfl) (by kernel_rfl) (by kernel_rfl) (fun _ _ _ h => h) (Or.inl ⟨by rfl, ?_⟩) (by assumption) ?_
     rotate_left 1
     ·
      (intro w hSw; (try dsimp only at hSw); go_simp; (try with_reducible rfl))
     try go_frame
     refine take_at (i := 5) (v := ?_) rfl (by kernel_rfl) (by kernel_rfl) (by kernel_rfl) (fun _ _ _ h => h) (Or.inl ⟨by rfl, ?_⟩) (by assumption) ?_
     rotate_left 1
     ·
      (intro w hSw; (try dsimp only at hSw); go_simp; (try with_reducible rfl))
     try go_frame
     refine take_at (i := 6) (v := ?_) rfl (by kernel_rfl) (by kernel_rfl) (by kernel_rfl) (fun _ _ _ h => h) (Or.inl ⟨by rfl, ?_⟩) (by assumption) ?_
     rotate_left 1
     ·
      (intro w hSw; (try dsimp only at hSw); go_simp; (try with_reducible rfl))
     try go_frame
     refine take_at (i := 7) (v := ?_) rfl (by kernel_rfl) (by kernel_rfl) (by kernel_rfl) (fun _ _ _ h => h) (Or.inl ⟨by rfl, ?_⟩) (by assumption) ?_
     rotate_left 1
     ·
      (intro w hSw; (try dsimp only at hSw); go_simp; (try with_reducible rfl))
     try go_frame
     refine take_at (i := 8) (v := ?_) rfl (by kernel_rfl) (by kernel_rfl) (by kernel_rfl) (fun _ _ _ h => h) (Or.inl ⟨by rfl, ?_⟩) (by assumption) ?_
     rotate_left 1
     ·
      (intro w hSw; (try dsimp only at hSw); go_simp; (try with_reducible rfl))
     try go_frame
     refine take_at (i := 9) (v := ?_) rfl (by kernel_rfl) (by kernel_rfl) (by kernel_rfl) (fun _ _ _ h => h) (Or.inl ⟨by rfl, ?_⟩) (by assumption) ?_
     rotate_left 1
     ·
      (intro w hSw; (try dsimp only at hSw); go_simp; (try with_reducible rfl))
     try go_frame
     refine wpAnyH_ready (rs := [10]) (by kernel_rfl) (by simp) ?_
     refine cons_at (i := 10) rfl (fun K hK => ?_) AllReadyH.nil
     go_simp
     have hA1 := (Below.refl V1.heap.size V1).alloc (Nat.le_refl _) (.cells #[.int .i64 bl] 3)
     refine hK.out _ _ ?_ (fun hHeld2 => ?_)
     ·
      exact ⟨cell_below hA1 z1, cell_below hA1 r3'⟩
     clear hK K
     try go_frame
     refine wpAnyH_ready (rs := [11]) (by kernel_rfl) (by simp) ?_
     refine cons_at (i := 11) rfl (fun K hK => ?_) AllReadyH.nil
     go_simp
     go_at_call 71
     refine (cE _ _ (hD1.trans (hA1.mono hD1.size)) (isI_one V1 bl)).mono ?_
     rintro y u ⟨rfl, hbu⟩
     have hVu : Below V.heap.size V u := Below.tr (Below.tr hD1 hA1) hbu
     refine hK.out _ _ ?_ (fun hHeld3 => ?_)
     ·
      exact ⟨cell_below hVu z0, cell_below hVu r3⟩
     clear hK K
     try go_frame
     refine take_at (i := 12) (v := ?_) rfl (by kernel_rfl) (by kernel_rfl) (by kernel_rfl) (fun _ _ _ h => h) (Or.inl ⟨by rfl, ?_⟩) (by assumption) ?_
     rotate_left 1
     ·
      (intro w hSw; (try dsimp only at hSw); go_simp; (try with_reducible rfl))
     try go_frame
     refine wpAnyH_done (by kernel_rfl) ?_ _
     refine NoPanic.normal ?_
     clear hHeld hHeld2 hHeld3 hbu hA1 z1 r3' cE HV1 hD1
     replace GA2 := GA2.below hVu
     replace B8 := B8.below hVu
     replace BX := BX.below hVu
     replace WI := WI.turns (Turns.of_below (P := fun _ => False) hVu) id
     replace IK : Hid (IsS u ak dk rk ∧ IsI u ac dc rc) := ⟨IK.out.1.below hVu, IK.out.2.below hVu⟩
     replace TT := TT.tr hVu
     have hsu := hVu.size
     have hs2 := T2.size
     have hdec : decide (rc = [(bl : Int)]) = decide (rc = [s.1]) := by rw [HSB.out]
     rw [hdec]
     clear hdec
     by_cases hrc : rc = [s.1]
     ·
      rw [decide_eq_true hrc]
      have hRe : R = (0, rG) := by rw [hRs.out, if_neg (fun hh => hh.2 hrc)]
      subst hRe
      clear hrc r0 r1 r2 r3 z0
      go_wp2
      go_ret
      exact growC_of rfl GA2 (nz3.low (by omega)) (nz4.low (by omega)) TT
     ·
      rw [decide_eq_false hrc]
      have HRe : Hid (R = upG N ((ss.take m).reverse) rG (nextN ((ss.take m).reverse) (rk, rc))) := by show _ = _; rw [hRs.out]; exact if_pos ⟨trivial, hrc⟩
      obtain ⟨⟨y, ys, hy⟩, hloose, hkeep⟩ : (∃ y ys, rc = y :: ys) ∧ Loose G rG ∧ ∀ b, G.has b → b ≠ s.1 → rG.has b := by
       rcases hLo.out with hh | ⟨_, ⟨y, ys, e, _⟩, h2, h3⟩
       ·
        omega
       ·
        exact ⟨⟨y, ys, e⟩, h2, h3⟩
      have HN : Hid (Ok rG ∧ (∀ t ∈ ss.take m, rG.has t.1 ∧ 10 ≤ t.1) ∧ ∃ y ys, rc = y :: ys) := by
       refine ⟨hloose.ok, fun t ht => ?_, y, ys, hy⟩
       have ht1 : t ∈ ss.take (m + 1) := by rw [List.take_add_one]; exact List.mem_append_left _ ht
       obtain ⟨h1, h2⟩ := HOK.out.2.1 t ht1
       refine ⟨hkeep _ h1 (fun e => ?_), h2⟩
       obtain ⟨i, hi⟩ := List.getElem?_of_mem ht
       have hil := (List.getElem?_eq_some_iff.1 hi).1
       rw [List.length_take] at hil
       rw [List.getElem?_take_of_lt (by omega)] at hi
       have hp := List.pairwise_iff_getElem.1 HND.out i m (by simp; omega) (by simpa using hmN) (by omega)
       apply hp
       have e1 : ss[i]'(by omega) = t := (List.getElem?_eq_some_iff.1 hi).2
       have e2 : ss[m]'(by omega) = s := (List.getElem?_eq_some_iff.1 hs.out).2
       simp only [List.getElem_map]
       rw [e1, e2, e]
      clear hrc hy hloose hkeep hLo hRs y ys r0 r1 r2 r3 z0
      obtain ⟨⟨r0, r1, r2, r3⟩, -⟩ := id B8
      obtain ⟨⟨q0, q1, q2, q3⟩, f0, f1, f2, f3⟩ := id BX
      have T5 := turns_put4 u w.heap.size (.bool false) (.slice ak kk dk) (.slice none 0 0) (.slice ac kc dc)
      have BX5 := BX.put (.bool false) (.slice ak kk dk) (.slice none 0 0) (.slice ac kc dc)
      have B85 := B8.turns T5 (by omega)
      have GA5 := GA2.turns T5 (by omega) (by omega) (nz3.off LB (by omega) (by omega)) (nz4.off LN (by omega) (by omega))
      have IK5 : Hid (IsS _ ak dk rk ∧ IsI _ ac dc rc) := ⟨IK.out.1.turns T5 (fun x hx e => by have := fk x hx; omega), IK.out.2.turns T5 (fun x hx e => by have := fc x hx; omega)⟩
      have WI5 := WI.turns T5 (by omega)
      have TT5 := TT.own T5 (fun k hk e => by omega)
      generalize hU5 : (((u.setCell ⟨w.heap.size, 0, none⟩ (.bool false)).setCell ⟨w.heap.size, 1, none⟩ (.slice ak kk dk)).setCell ⟨w.heap.size, 2, none⟩ (.slice none 0 0)).setCell ⟨w.heap.size, 3, none⟩ (.slice ac kc dc) = U5 at T5 BX5 B85 GA5 IK5 WI5 TT5
      have HU5 : Hid ((((u.setCell ⟨w.heap.size, 0, none⟩ (.bool false)).setCell ⟨w.heap.size, 1, none⟩ (.slice ak kk dk)).setCell ⟨w.heap.size, 2, none⟩ (.slice none 0 0)).setCell ⟨w.heap.size, 3, none⟩ (.slice ac kc dc) = U5) := hU5
      have hs5 := T5.size
      clear hU5
      cases m with
      | zero =>
       have hNR : Hid (NodeR U5 h q ak kk dk none 0 0 ac kc dc rk [] rc) := ⟨EK.out.1, rfl, EK.out.2, IK5.out.1, isS_nil _, IK5.out.2, fk.off2 (by omega) (by omega), off2_nil _ _, fc.off2 (by omega) (by omega)⟩
       go_wp2
       rw [HU5.out]
       go_roundw
       case rel => exact ⟨0, rG, false, rk, [], rc, b3, e3, b4, e4, ak, kk, dk, none, 0, 0, ac, kc, dc, by go_num, by omega, HRe.out, HN.out.1, HN.out.2.1, fun _ => HN.out.2.2, BX5, hNR.out, GA5, ⟨nz3, nz4⟩, TT5⟩
       case measure => simp [intOf]
      | succ m =>
       obtain ⟨p, hp⟩ : ∃ p, Hid (ss[m]? = some p) := ⟨_, List.getElem?_eq_getElem (by omega)⟩
       obtain ⟨mp, hmp⟩ : ∃ mp, Hid (mss[m]? = some mp) := ⟨_, List.getElem?_eq_getElem (by rw [RSw.out.1]; omega)⟩
       obtain ⟨hp0, hp1, hp2, hp3⟩ := RSw.out.2 m mp p hmp.out hp.out
       obtain ⟨hi1, hi2, hi3, hi4⟩ := HIN.out m p (by omega) hp.out
       have hP5 := hp3.mine TT5
       obtain ⟨y0, y1, y2, y3, y4, y5⟩ := WI5 m mp hmp.out
       obtain ⟨xk, hxk⟩ : ∃ xk, xk = p.2.1.2.1.take p.2.2 ++ (rk ++ p.2.1.2.1.drop p.2.2) := ⟨_, rfl⟩
       obtain ⟨xc, hxc⟩ : ∃ xc, xc = p.2.1.2.2.2.take p.2.2 ++ (rc ++ p.2.1.2.2.2.drop (p.2.2 + 1)) := ⟨_, rfl⟩
       have cW : ∀ X, Turns (fun _ => False) U5 X → Calls Tryz.prog 72 #[.agg #[.int .i64 mp.block, .bool mp.l, .slice mp.a1 mp.k1 mp.d1, .slice mp.a2 mp.k2 mp.d2, .slice mp.a3 mp.k3 mp.d3, .int .i64 mp.kid], .agg #[.bool false, .slice ak kk dk, .slice none 0 0, .slice ac kc dc]] X fun x w' => ∃ z1 t1 z2 t2, x = .returned (.agg #[.bool false, .slice z1 xk.length t1, .slice none 0 0, .slice z2 xc.length t2]) ∧ IsS w' z1 t1 xk ∧ IsI w' z2 t2 xc ∧ From X.heap.size z1 ∧ From X.heap.size z2 ∧ Below X.heap.size X w' := fun X hX => by
        have hh2 := hRow.out
        have := withRow_any mp.block mp.l mp.a1 mp.a2 mp.a3 ak none ac mp.d1 mp.d2 mp.d3 mp.k1 mp.k2 mp.k3 dk 0 dc kk 0 kc mp.kid xk.length xc.length p.2.1.2.1 rk p.2.1.2.2.2 rc X hP5.e1 hP5.e3 (hP5.i1.turns hX (fun _ _ e => e)) (hP5.i3.turns hX (fun _ _ e => e)) EK.out.1 EK.out.2 (IK5.out.1.turns hX (fun _ _ e => e)) (IK5.out.2.turns hX (fun _ _ e => e)) (by rw [hp2, hP5.e1]; exact hi1) (by rw [hp2, hP5.e3]; exact hi2) (by rw [hP5.e1]; omega) (by rw [hP5.e3]; omega) (by rw [EK.out.1]; omega) (by rw [EK.out.2]; omega) (by rw [hxk, hp2]) (by rw [hxc, hp2])
        rw [hp2, ← hxk, ← hxc] at this
        rw [hp2]
        exact this
       have HRe2 : Hid (R = upG N ((ss.take (m + 1)).reverse) rG (false, xk, [], xc)) := by
        show _ = _
        rw [HRe.out, take_rev hp.out]
        show upG N _ rG (withRowN p.2.1 p.2.2 (rk, rc)) = _
        unfold withRowN
        rw [hxk, hxc]
       have hxe : Hid (m + 1 = 0 → ∃ y ys, xc = y :: ys) := fun e => absurd e (by omega)
       obtain ⟨⟨r0', r1', r2', r3'⟩, -⟩ := id B85
       obtain ⟨⟨q0', q1', q2', q3'⟩, f0', f1', f2', f3'⟩ := id BX5
       obtain ⟨nk, hnk⟩ : ∃ nk, nk = xk.length := ⟨_, rfl⟩
       obtain ⟨nc, hnc⟩ : ∃ nc, nc = xc.length := ⟨_, rfl⟩
       rw [← hnk, ← hnc] at cW
       have HNK : Hid (nk = xk.length ∧ nc = xc.length) := ⟨hnk, hnc⟩
       obtain ⟨V9, hV9⟩ : ∃ X, X = U5.drew := ⟨_, rfl⟩
       have HV9 : Hid (V9 = U5.drew) := hV9
       have hD9 : Below U5.heap.size U5 V9 := by rw [hV9]; exact (Below.refl _ _).drew
       have hm1 : (0 : Int) < ((m + 1 : Nat) : Int) := by omega
       have hmi' : (m : Int) < N := by omega
       have hwm : IntKind.i64.wrap (m : Int) = (m : Int) := i64_in _ (by omega) (by omega)
       have B89 := B85.below hD9
       have BX9 := BX5.below hD9
       have GA9 := GA5.below hD9
       have TT9 := TT5.tr hD9
       have hs9 := hD9.size
       clear y0 y1 y2 y3 y4 y5 hxk hxc hnk hnc hV9
       obtain ⟨y0, y1, y2, y3, y4, y5⟩ := (WI5.turns (Turns.of_below (P := fun _ => False) hD9) id) m mp hmp.out
       have cW9 := cW V9 (Turns.of_below hD9)
       clear hp0 hp1 hp2 hp3 hi1 hi2 hi3 hi4 hP5
       clear cW r0' r1' r2' r3' q0' q1' q2' q3' f0' f1' f2' f3' WI5 hD9
       obtain ⟨⟨r0', r1', r2', r3'⟩, -⟩ := id B89
       go_wp2
       rw [HU5.out]
       refine wp_region_noPanic ?_
       refine wp_region_held_drew (S := fun X => (X.cell? ⟨g0, m * 6, none⟩ = some (.int .i64 mp.block) ∧ X.cell? ⟨g0, m * 6 + 1, none⟩ = some (.bool mp.l) ∧ X.cell? ⟨g0, m * 6 + 2, none⟩ = some (.slice mp.a1 mp.k1 mp.d1) ∧ X.cell? ⟨g0, m * 6 + 3, none⟩ = some (.slice mp.a2 mp.k2 mp.d2) ∧ X.cell? ⟨g0, m * 6 + 4, none⟩ = some (.slice mp.a3 mp.k3 mp.d3) ∧ X.cell? ⟨g0, m * 6 + 5, none⟩ = some (.int .i64 mp.kid)) ∧ (X.cell? ⟨g8, 0, none⟩ = some (.bool false) ∧ X.cell? ⟨g8, 1, none⟩ = some (.slice ak kk dk) ∧ X.cell? ⟨g8, 2, none⟩ = some (.slice none 0 0) ∧ X.cell? ⟨g8, 3, none⟩ = some (.slice ac kc dc))) (by kernel_rfl) (by rw [← HV9.out]; exact ⟨⟨y0, y1, y2, y3, y4, y5⟩, r0', r1', r2', r3'⟩) (fun hHeld => ?_)
       rw [← HV9.out] at hHeld ⊢
       refine take_at (i := 0) (v := ?_) rfl (by kernel_rfl) (by kernel_rfl) (by kernel_rfl) (fun _ _ _ h => h) (Or.inl ⟨by rfl, ?_⟩) (by assumption) ?_
       rotate_left 1
       ·
        (intro w hSw; (try dsimp only at hSw); go_simp; (try with_reducible rfl))
       try go_frame
       refine take_at (i := 1) (v := ?_) rfl (by kernel_rfl) (by kernel_rfl) (by kernel_rfl) (fun _ _ _ h => h) (Or.inl ⟨by rfl, ?_⟩) (by assumption) ?_
       rotate_left 1
       ·
        (intro w hSw; (try dsimp only at hSw); go_simp; (try with_reducible rfl))
       try go_frame
       refine take_at (i := 2) (v := ?_) rfl (by kernel_rfl) (by kernel_rfl) (by kernel_rfl) (fun _ _ _ h => h) (Or.inl ⟨by rfl, ?_⟩) (by assumption) ?_
       rotate_left 1
       ·
        (intro w hSw; (try dsimp only at hSw); go_simp; (try with_reducible rfl))
       try go_frame
       refine take_at (i := 3) (v := ?_) rfl (by kernel_rfl) (by kernel_rfl) (by kernel_rfl) (fun _ _ _ h => h) (Or.inl ⟨by rfl, ?_⟩) (by assumption) ?_
       rotate_left 1
       ·
        (intro w hSw; (try dsimp only at hSw); go_simp; (try with_reducible rfl))
       try go_frame
       refine take_at (i := 4) (v := ?_) rfl (by kernel_rfl) (by kernel_rfl) (by kernel_rfl) (fun _ _ _ h => h) (Or.inl ⟨by rfl, ?_⟩) (by assumption) ?_
       rotate_left 1
       ·
        (intro w hSw; (try dsimp only at hSw); go_simp; (try with_reducible rfl))
       try go_frame
       refine take_at (i := 5) (v := ?_) rfl (by kernel_rfl) (by kernel_rfl) (by kernel_rfl) (fun _ _ _ h => h) (Or.inl ⟨by rfl, ?_⟩) (by assumption) ?_
       rotate_left 1
       ·
        (intro w hSw; (try dsimp only at hSw); go_simp; (try with_reducible rfl))
       try go_frame
       refine wpAnyH_ready (rs := [6]) (by kernel_rfl) (by simp) ?_
       refine cons_at (i := 6) rfl (fun K hK => ?_) AllReadyH.nil
       go_simp
       go_at_call 72
       refine cW9.mono ?_
       rintro y u9 ⟨z1, t1, z2, t2, rfl, iz1, iz2, fz1, fz2, hb9⟩
       refine hK.out _ _ ?_ (fun hHeld2 => ?_)
       ·
        exact ⟨⟨cell_below hb9 y0, cell_below hb9 y1, cell_below hb9 y2, cell_below hb9 y3, cell_below hb9 y4, cell_below hb9 y5⟩, cell_below hb9 r0', cell_below hb9 r1', cell_below hb9 r2', cell_below hb9 r3'⟩
       clear hK K
       try go_frame
       replace BX9 := BX9.below hb9
       replace GA9 := GA9.below hb9
       replace TT9 := TT9.tr hb9
       have hsu9 := hb9.size
       obtain ⟨⟨q0', q1', q2', q3'⟩, f0', f1', f2', f3'⟩ := id BX9
       refine wpAnyH_ready (rs := [7]) (by kernel_rfl) (by simp) ?_
       refine cons_at (i := 7) rfl (fun K hK => ?_) AllReadyH.nil
       go_simp
       have T6 := turns_put4 u9 w.heap.size (.bool false) (.slice z1 nk t1) (.slice none 0 0) (.slice z2 nc t2)
       have BX6 := BX9.put (.bool false) (.slice z1 nk t1) (.slice none 0 0) (.slice z2 nc t2)
       have GA6 := GA9.turns T6 (by omega) (by omega) (nz3.off LB (by omega) (by omega)) (nz4.off LN (by omega) (by omega))
       have TT6 := TT9.own T6 (fun k hk e => by omega)
       have IZ : Hid (NodeR _ h q z1 nk t1 none 0 0 z2 nc t2 xk [] xc) := ⟨HNK.out.1, rfl, HNK.out.2, iz1.turns T6 (fun x hx e => by have := fz1 x hx; omega), isS_nil _, iz2.turns T6 (fun x hx e => by have := fz2 x hx; omega), fz1.off2 (by omega) (by omega), off2_nil _ _, fz2.off2 (by omega) (by omega)⟩
       have y0' := T6.cell (p := ⟨g0, m * 6, none⟩) (by show ¬ g0 = _; omega) (cell_below hb9 y0)
       have y1' := T6.cell (p := ⟨g0, m * 6 + 1, none⟩) (by show ¬ g0 = _; omega) (cell_below hb9 y1)
       have y2' := T6.cell (p := ⟨g0, m * 6 + 2, none⟩) (by show ¬ g0 = _; omega) (cell_below hb9 y2)
       have y3' := T6.cell (p := ⟨g0, m * 6 + 3, none⟩) (by show ¬ g0 = _; omega) (cell_below hb9 y3)
       have y4' := T6.cell (p := ⟨g0, m * 6 + 4, none⟩) (by show ¬ g0 = _; omega) (cell_below hb9 y4)
       have y5' := T6.cell (p := ⟨g0, m * 6 + 5, none⟩) (by show ¬ g0 = _; omega) (cell_below hb9 y5)
       have r0'' := T6.cell (p := ⟨g8, 0, none⟩) (by show ¬ g8 = _; omega) (cell_below hb9 r0')
       have r1'' := T6.cell (p := ⟨g8, 1, none⟩) (by show ¬ g8 = _; omega) (cell_below hb9 r1')
       have r2'' := T6.cell (p := ⟨g8, 2, none⟩) (by show ¬ g8 = _; omega) (cell_below hb9 r2')
       have r3'' := T6.cell (p := ⟨g8, 3, none⟩) (by show ¬ g8 = _; omega) (cell_below hb9 r3')
       refine hK.out _ _ ?_ (fun hHeld3 => ?_)
       ·
        exact ⟨⟨y0', y1', y2', y3', y4', y5'⟩, r0'', r1'', r2'', r3''⟩
       clear hK K
       try go_frame
       refine wpAnyH_done (by kernel_rfl) ?_ _
       refine NoPanic.normal ?_
       clear hHeld hHeld2 hHeld3
       go_wp2
       go_roundw
       case rel => exact ⟨m + 1, rG, false, xk, [], xc, b3, e3, b4, e4, z1, nk, t1, none, 0, 0, z2, nc, t2, by go_num, by omega, HRe2.out, HN.out.1, HN.out.2.1, hxe.out, BX6, IZ.out, GA6, ⟨nz3, nz4⟩, TT6⟩
       case measure => simp [intOf]; omega
    ·
     have hE' : (rE != 0) = true := bne_iff_ne.2 hE
     have hRe : R = (rE, rG) := by rw [hRs.out, if_neg (fun hh => hE hh.1)]
     subst hRe
     clear hRs hLo
     obtain ⟨V1, hV1⟩ : ∃ X, X = V.drew := ⟨_, rfl⟩
     have hD1 : Below V.heap.size V V1 := by rw [hV1]; exact (Below.refl _ _).drew
     have HV1 : Hid (V1 = V.drew) := hV1
     clear hV1
     go_wp2
     refine wp_region_noPanic ?_
     refine wp_region_held_drew (S := fun X => True) (by kernel_rfl) trivial (fun hHeld => ?_)
     rw [← HV1.out]
     refine take_at (i := 0) (v := ?_) rfl (by kernel_rfl) (by kernel_rfl) (by kernel_rfl) (fun _ _ _ h => h) (Or.inl ⟨by rfl, ?_⟩) (by assumption) ?_
     rotate_left 1
     ·
      (intro w hSw; (try dsimp only at hSw); go_simp; (try with_reducible rfl))
     try go_frame
     refine take_at (i := 1) (v := ?_) rfl (by kernel_rfl) (by kernel_rfl) (by kernel_rfl) (fun _ _ _ h => h) (Or.inl ⟨by rfl, ?_⟩) (by assumption) ?_
     rotate_left 1
     ·
      (intro w hSw; (try dsimp only at hSw); go_simp; (try with_reducible rfl))
     try go_frame
     refine take_at (i := 2) (v := ?_) rfl (by kernel_rfl) (by kernel_rfl) (by kernel_rfl) (fun _ _ _ h => h) (Or.inl ⟨by rfl, ?_⟩) (by assumption) ?_
     rotate_left 1
     ·
      (intro w hSw; (try dsimp only at hSw); go_simp; (try with_reducible rfl))
     try go_frame
     refine take_at (i := 3) (v := undef) rfl (by kernel_rfl) (by kernel_rfl) (by kernel_rfl) (fun _ _ _ h => h) (Or.inr ⟨by rfl, rfl⟩) (by assumption) ?_
     try go_frame
     refine take_at (i := 4) (v := undef) rfl (by kernel_rfl) (by kernel_rfl) (by kernel_rfl) (fun _ _ _ h => h) (Or.inr ⟨by rfl, rfl⟩) (by assumption) ?_
     try go_frame
     refine take_at (i := 5) (v := undef) rfl (by kernel_rfl) (by kernel_rfl) (by kernel_rfl) (fun _ _ _ h => h) (Or.inr ⟨by rfl, rfl⟩) (by assumption) ?_
     try go_frame
     refine take_at (i := 6) (v := undef) rfl (by kernel_rfl) (by kernel_rfl) (by kernel_rfl) (fun _ _ _ h => h) (Or.inr ⟨by rfl, rfl⟩) (by assumption) ?_
     try go_frame
     refine take_at (i := 7) (v := undef) rfl (by kernel_rfl) (by kernel_rfl) (by kernel_rfl) (fun _ _ _ h => h) (Or.inr ⟨by rfl, rfl⟩) (by assumption) ?_
     try go_frame
     refine take_at (i := 8) (v := undef) rfl (by kernel_rfl) (by kernel_rfl) (by kernel_rfl) (fun _ _ _ h => h) (Or.inr ⟨by rfl, rfl⟩) (by assumption) ?_
     try go_frame
     refine take_at (i := 9) (v := undef) rfl (by kernel_rfl) (by kernel_rfl) (by kernel_rfl) (fun _ _ _ h => h) (Or.inr ⟨by rfl, rfl⟩) (by assumption) ?_
     try go_frame
     refine take_at (i := 10) (v := undef) rfl (by kernel_rfl) (by kernel_rfl) (by kernel_rfl) (fun _ _ _ h => h) (Or.inr ⟨by rfl, rfl⟩) (by assumption) ?_
     try go_frame
     refine take_at (i := 11) (v := undef) rfl (by kernel_rfl) (by kernel_rfl) (by kernel_rfl) (fun _ _ _ h => h) (Or.inr ⟨by rfl, rfl⟩) (by assumption) ?_
     try go_frame
     refine take_at (i := 12) (v := ?_) rfl (by kernel_rfl) (by kernel_rfl) (by kernel_rfl) (fun _ _ _ h => h) (Or.inl ⟨by rfl, ?_⟩) (by assumption) ?_
     rotate_left 1
     ·
      (intro w hSw; (try dsimp only at hSw); go_simp; (try with_reducible rfl))
     try go_frame
     refine wpAnyH_done (by kernel_rfl) ?_ _
     refine NoPanic.normal ?_
     clear hHeld r0 r1 r2 r3 z0
     go_wp2
     go_ret
     exact growC_of rfl (GA2.below hD1) (nz3.low (by omega)) (nz4.low (by omega)) (TT.tr hD1)
end Go.Proofs.YtaecfbfcjaailaaGreat
namespace Go.Proofs.YtaecfbfcjaailaaGreat
open Go.RowKit Plain Anylast
set_option linter.unusedVariables false
def OneS (B : Nat) (x : ByteArray) (v : Value) (w : World) : Prop := ∃ g, v = .slice (some ⟨g, 0, none⟩) 1 1 ∧ B ≤ g ∧ IsS w (some ⟨g, 0, none⟩) 1 [x]
theorem OneS.turns {B h : Nat} {x : ByteArray} {v : Value} {w w' : World} (hs : OneS B x v w) (hh : h < B) (t : Turns (fun k => k = h) w w') : OneS B x v w' := by
 obtain ⟨g, h1, h2, h3⟩ := hs
 exact ⟨g, h1, h2, h3.turns t (fun x hx e => by cases hx; have e' : g = h := e; omega)⟩
def pairV9 (z2 z3 B m1 m2 : Nat) (i tj : Int) (r1 r2 : Value) (key val : ByteArray) (xs ys : List ByteArray) (o : Nat) (v : Value) (w : World) : Prop :=
 match o with
 | 0 => v = .pointer (some ⟨z2, 1, none⟩)
 | 1 => v = r1
 | 2 => v = .int .i64 i
 | 3 => v = .int .i64 tj
 | 4 => v = .pointer (some ⟨z3, 0, none⟩)
 | 5 => v = .string key
 | 6 => OneS B key v w
 | 7 => GotS B m1 xs v w
 | 8 => v = .pointer (some ⟨z2, 2, none⟩)
 | 9 => v = r2
 | 10 => v = .int .i64 i
 | 11 => v = .int .i64 tj
 | 12 => v = .pointer (some ⟨z3, 1, none⟩)
 | 13 => v = .string val
 | 14 => OneS B val v w
 | 15 => GotS B m2 ys v w
 | 16 => ∃ u u', v = .agg #[.bool true, u, u', .slice none 0 0] ∧ GotS B m1 xs u w ∧ GotS B m2 ys u' w
 | _ => True
theorem pairV9_mono {z2 z3 B m1 m2 h : Nat} {i tj : Int} {r1 r2 : Value} {key val : ByteArray} {xs ys : List ByteArray} (hh : h < B) (o : Nat) (v : Value) (w w' : World) (t : Turns (fun k => k = h) w w') (hv : pairV9 z2 z3 B m1 m2 i tj r1 r2 key val xs ys o v w) : pairV9 z2 z3 B m1 m2 i tj r1 r2 key val xs ys o v w' := by
 unfold pairV9 at hv ⊢
 split at hv <;> first
  | exact hv
  | exact hv.turns hh t
  | (obtain ⟨u, u', h1, h2, h3⟩ := hv; exact ⟨u, u', h1, h2.turns hh t, h3.turns hh t⟩)
set_option maxRecDepth 20000 in
set_option maxHeartbeats 4000000 in
theorem withPair_any (a a' a'' : Option Addr) (c c' c'' n n' n'' m1 m2 : Nat) (ks vs : List ByteArray) (cs : List Int) (key val : ByteArray) (w : World) (hn : n = ks.length) (hn' : n' = vs.length) (hn'' : n'' = cs.length) (hK : IsS w a c ks) (hV : IsS w a' c' vs) (hC : IsI w a'' c'' cs)
  (hs : standsN true ks vs cs = true) (mk : key.size ≤ maxLen) (mv : val.size ≤ maxLen) (hm1 : m1 = (withPairN ks vs key val).2.1.length) (hm2 : m2 = (withPairN ks vs key val).2.2.1.length) :
  Calls Tryz.prog 54 #[.agg #[.bool true, .slice a n c, .slice a' n' c', .slice a'' n'' c''], .agg #[.string key, .string val]] w fun e w' => ∃ x1 y1 x2 y2, e = .returned (.agg #[.bool true, .slice x1 m1 y1, .slice x2 m2 y2, .slice none 0 0]) ∧ IsS w' x1 y1 (withPairN ks vs key val).2.1 ∧ IsS w' x2 y2 (withPairN ks vs key val).2.2.1 ∧ From w.heap.size x1 ∧ From w.heap.size x2 ∧ Below w.heap.size w w' := by
 obtain ⟨W, hW⟩ : ∃ W, W = ((w.alloc (.cells #[.bool true, .slice a n c, .slice a' n' c', .slice a'' n'' c''] 76)).alloc (.cells #[.string key, .string val] 50)).alloc (.cells #[.bool false, .slice none 0 0, .slice none 0 0, .slice none 0 0] 76) := ⟨_, rfl⟩
 have A2 : Box4 W w.heap.size (.bool true) (.slice a n c) (.slice a' n' c') (.slice a'' n'' c'') := by rw [hW]; exact ((box4_new _ _ _ _ _ _ rfl).alloc _).alloc _
 have A3 : Box2 W (w.heap.size + 1) (.string key) (.string val) := by rw [hW]; exact (box2_new _ _ _ _ (by simp)).alloc _
 have A4 : Box4 W (w.heap.size + 2) (.bool false) (.slice none 0 0) (.slice none 0 0) (.slice none 0 0) := by rw [hW]; exact box4_new _ _ _ _ _ _ (by simp)
 have HB : Below w.heap.size w W := by rw [hW]; exact (((Below.refl _ _).alloc (Nat.le_refl _) _).alloc (by simp) _).alloc (by simp; omega) _
 have cF0 : ∀ V, Below w.heap.size w V → Calls Tryz.prog 66 #[.agg #[.bool true, .slice a n c, .slice a' n' c', .slice a'' n'' c''], .string key] V fun e w' => e = .returned (.tuple #[.int .i64 (findR true ks vs cs key), .bool (findI true ks vs cs key)]) ∧ Below V.heap.size V w' := fun V h => nodeFind_any true a a' a'' c c' c'' n n' n'' ks vs cs key V hn hn' hn'' (hK.below h) (hV.below h) (hC.below h)
 have e1 : findR true ks vs cs key = (findN key ks : Nat) := by unfold findR; rw [if_pos hs]
 have e2 : findI true ks vs cs key = isN ks key := by unfold findI; rw [hs]; rfl
 rw [e1, e2] at cF0
 obtain ⟨h9, _, hr, _, _, hsh⟩ := standsN_iff.1 hs
 have hlen : vs.length = ks.length := (shape_leaf.1 hsh).1
 have hfle := findN_le key ks
 obtain ⟨i, hi⟩ : ∃ i, i = findN key ks := ⟨_, rfl⟩
 have en1 : (withPairN ks vs key val).2.1 = ks.take i ++ ([key] ++ ks.drop (i + (if isN ks key = true then 1 else 0))) := by unfold withPairN; rw [← hi]; rfl
 have en2 : (withPairN ks vs key val).2.2.1 = vs.take i ++ ([val] ++ vs.drop (i + (if isN ks key = true then 1 else 0))) := by unfold withPairN; rw [← hi]; rfl
 rw [en1] at hm1 ⊢
 rw [en2] at hm2 ⊢
 clear en1 en2
 have hin : i ≤ n := by omega
 have hil : isN ks key = true → i + 1 ≤ n := fun h => by have := (List.getElem?_eq_some_iff.1 (isN_iff.1 h)).1; omega
 rw [← hi] at cF0
 have hin' : (i : Int) ≤ 9 := by omega
 obtain ⟨j, hj⟩ : ∃ j, j = i + (if isN ks key = true then 1 else 0) := ⟨_, rfl⟩
 rw [← hj] at hm1 hm2 ⊢
 have hjn : j ≤ n := by rw [hj]; split; exact hil (by assumption); omega
 have hij : i ≤ j := by rw [hj]; omega
 have cK : ∀ V g, Below w.heap.size w V → IsS V (some ⟨g, 0, none⟩) 1 [key] → Calls Tryz.prog 68 #[.slice a n c, .int .i64 i, .int .i64 j, .slice (some ⟨g, 0, none⟩) 1 1] V fun e w' => ∃ b d, e = .returned (.slice b m1 d) ∧ IsS w' b d (ks.take i ++ ([key] ++ ks.drop j)) ∧ From V.heap.size b ∧ Below V.heap.size V w' := fun V g h h1 =>
  splicedS_any a (some ⟨g, 0, none⟩) c 1 n 1 i j m1 ks [key] V hn rfl (hK.below h) h1 hij hjn (by rw [hm1]; simp only [List.length_append, List.length_take, List.length_drop, List.length_cons, List.length_nil]; omega) (by omega) (by omega)
 have cV : ∀ V g, Below w.heap.size w V → IsS V (some ⟨g, 0, none⟩) 1 [val] → Calls Tryz.prog 68 #[.slice a' n' c', .int .i64 i, .int .i64 j, .slice (some ⟨g, 0, none⟩) 1 1] V fun e w' => ∃ b d, e = .returned (.slice b m2 d) ∧ IsS w' b d (vs.take i ++ ([val] ++ vs.drop j)) ∧ From V.heap.size b ∧ Below V.heap.size V w' := fun V g h h1 =>
  splicedS_any a' (some ⟨g, 0, none⟩) c' 1 n' 1 i j m2 vs [val] V hn' rfl (hV.below h) h1 hij (by omega) (by rw [hm2]; simp only [List.length_append, List.length_take, List.length_drop, List.length_cons, List.length_nil]; omega) (by omega) (by omega)
 generalize ks.take i ++ ([key] ++ ks.drop j) = XS at *
 generalize vs.take i ++ ([val] ++ vs.drop j) = YS at *
 obtain ⟨is, his⟩ : ∃ is, is = isN ks key := ⟨_, rfl⟩
 rw [← his] at cF0 hj
 have cF := cF0
 obtain ⟨⟨q0, q1, q2, q3⟩, -⟩ := id (hW ▸ A2)
 obtain ⟨⟨p0, p1⟩, -⟩ := id (hW ▸ A3)
 cases is with
 | true =>
  obtain ⟨tj, htj⟩ : ∃ t : Int, t = (i : Int) + 1 := ⟨_, rfl⟩
  have ej : (j : Int) = tj := by rw [htj, hj]; simp
  rw [ej] at cK cV
  clear hn hn' hn'' hK hV hC hs hm1 hm2 cF0 e1 e2 h9 hr hsh hlen hfle hi hil hj hjn hij his ej hin
  go_enter Tryz.func54, Tryz.ntmps54
  go_wp2_with (go_at_call 66; rw [← hW]; refine (cF _ HB).mono ?_; rintro y w1 ⟨rfl, hb⟩; replace HB := Below.tr HB hb; replace A2 := A2.below hb; replace A3 := A3.below hb; replace A4 := A4.below hb; clear q0 q1 q2 q3 p0 p1 hb)
  rw [← htj]
  clear htj
  generalize e4 : w.heap.size + 1 + 1 = z4
  generalize e3 : w.heap.size + 1 = z3
  generalize e2 : w.heap.size = z2
  obtain ⟨V0, hV0⟩ : ∃ V, V = w1.drew := ⟨_, rfl⟩
  replace HB : Below w.heap.size w V0 := by rw [hV0]; exact HB.drew
  replace A2 : Box4 V0 z2 (.bool true) (.slice a n c) (.slice a' n' c') (.slice a'' n'' c'') := by rw [hV0, ← e2]; exact A2.drew
  replace A3 : Box2 V0 z3 (.string key) (.string val) := by rw [hV0, ← e3]; exact A3.drew
  replace A4 : Box4 V0 z4 (.bool false) (.slice none 0 0) (.slice none 0 0) (.slice none 0 0) := by rw [hV0, ← e4]; exact A4.drew
  have z4B : z4 < V0.heap.size := A4.lt
  have hle4w : w.heap.size ≤ z4 := by omega
  have E2 : Hid (w.heap.size = z2) := e2
  have HV0 : Hid (V0 = w1.drew) := hV0
  clear e2 e3 e4 hV0 hW
  refine region_last (by kernel_rfl) 17 (pairV9 z2 z3 V0.heap.size m1 m2 (i : Int) tj (.slice a n c) (.slice a' n' c') key val XS YS) (fun u => Below V0.heap.size V0 u) (LeafT z4 V0.heap.size m1 m2 XS YS V0) (fun u u' => Turns (fun k => k = z4) u u') (by kernel_rfl) (by kernel_rfl) (fun i v u u' t hv => pairV9_mono z4B i v u u' t hv) (by rw [← HV0.out]; exact Below.refl _ _) ?step ?done
  case step =>
   intro o op ho ac u hS hdf hsz hdep hsame
   have B2 := A2.below hS
   have B3 := A3.below hS
   have B4 := A4.below hS
   have hsz0 : V0.heap.size ≤ u.heap.size := hS.size
   have HU : Hid (Below w.heap.size w u) := Below.tr HB hS
   obtain ⟨⟨q0, q1, q2, q3⟩, -⟩ := id B2
   obtain ⟨⟨p0, p1⟩, -⟩ := id B3
   obtain ⟨⟨r0, r1, r2, r3⟩, g0, g1, g2, g3⟩ := id B4
   match o, ho with
   | 0, ho =>
    cases ho
    have h2 := hsame 2 rfl
    exact op_value rfl (wanted_free rfl) (by clear hdep hsame hsz hdf; go_simp) rfl (by rw [if_neg (by decide)]; exact hS) (Turns.refl _ _)
   | 1, ho =>
    cases ho
    obtain ⟨_, h19, rfl⟩ := hdep 0 _ 19 rfl rfl rfl
    exact op_value rfl (wanted_free rfl) (by clear hdep hsame hsz hdf; go_simp) rfl (by rw [if_neg (by decide)]; exact hS) (Turns.refl _ _)
   | 2, ho =>
    cases ho
    have h5 := hsame 5 rfl
    exact op_value rfl (wanted_free rfl) (by clear hdep hsame hsz hdf; go_simp) rfl (by rw [if_neg (by decide)]; exact hS) (Turns.refl _ _)
   | 3, ho =>
    cases ho
    have h7 := hsame 7 rfl
    exact op_value rfl (wanted_free rfl) (by clear hdep hsame hsz hdf; go_simp) rfl (by rw [if_neg (by decide)]; exact hS) (Turns.refl _ _)
   | 4, ho =>
    cases ho
    have h3 := hsame 3 rfl
    exact op_value rfl (wanted_free rfl) (by clear hdep hsame hsz hdf; go_simp) rfl (by rw [if_neg (by decide)]; exact hS) (Turns.refl _ _)
   | 5, ho =>
    cases ho
    obtain ⟨_, h23, rfl⟩ := hdep 4 _ 23 rfl rfl rfl
    exact op_value rfl (wanted_free rfl) (by clear hdep hsame hsz hdf; go_simp) rfl (by rw [if_neg (by decide)]; exact hS) (Turns.refl _ _)
   | 6, ho =>
    cases ho
    obtain ⟨_, h24, rfl⟩ := hdep 5 _ 24 rfl rfl rfl
    exact op_value (v := .slice (some ⟨u.heap.size, 0, none⟩) 1 1) (w' := u.alloc (.cells #[.string key] 9)) rfl (wanted_free rfl) (by clear hdep hsame hsz hdf; go_simp) ⟨u.heap.size, rfl, hsz0, isS_one u key mk⟩ (by rw [if_neg (by decide)]; exact hS.alloc hsz0 _) ((Turns.refl _ _).alloc _)
   | 7, ho =>
    cases ho
    obtain ⟨_, h20, rfl⟩ := hdep 1 _ 20 rfl rfl rfl
    obtain ⟨_, h21, rfl⟩ := hdep 2 _ 21 rfl rfl rfl
    obtain ⟨_, h22, rfl⟩ := hdep 3 _ 22 rfl rfl rfl
    obtain ⟨_, h25, g, rfl, hg, i0⟩ := hdep 6 _ 25 rfl rfl rfl
    refine op_call (w' := u) rfl (wanted_free rfl) (by clear hdep hsame hsz hdf i0; go_simp) ((cK u g HU.out i0).mono ?_)
    rintro y u' ⟨p, q, rfl, i1, j1, hb⟩
    exact ⟨_, rfl, ⟨p, q, rfl, i1, j1.mono hsz0⟩, by rw [if_neg (by decide)]; exact hS.trans (hb.mono hsz0), Turns.of_below hb⟩
   | 8, ho =>
    cases ho
    have h2 := hsame 2 rfl
    exact op_value rfl (wanted_free rfl) (by clear hdep hsame hsz hdf; go_simp) rfl (by rw [if_neg (by decide)]; exact hS) (Turns.refl _ _)
   | 9, ho =>
    cases ho
    obtain ⟨_, h27, rfl⟩ := hdep 8 _ 27 rfl rfl rfl
    exact op_value rfl (wanted_free rfl) (by clear hdep hsame hsz hdf; go_simp) rfl (by rw [if_neg (by decide)]; exact hS) (Turns.refl _ _)
   | 10, ho =>
    cases ho
    have h5 := hsame 5 rfl
    exact op_value rfl (wanted_free rfl) (by clear hdep hsame hsz hdf; go_simp) rfl (by rw [if_neg (by decide)]; exact hS) (Turns.refl _ _)
   | 11, ho =>
    cases ho
    have h7 := hsame 7 rfl
    exact op_value rfl (wanted_free rfl) (by clear hdep hsame hsz hdf; go_simp) rfl (by rw [if_neg (by decide)]; exact hS) (Turns.refl _ _)
   | 12, ho =>
    cases ho
    have h3 := hsame 3 rfl
    exact op_value rfl (wanted_free rfl) (by clear hdep hsame hsz hdf; go_simp) rfl (by rw [if_neg (by decide)]; exact hS) (Turns.refl _ _)
   | 13, ho =>
    cases ho
    obtain ⟨_, h31, rfl⟩ := hdep 12 _ 31 rfl rfl rfl
    exact op_value rfl (wanted_free rfl) (by clear hdep hsame hsz hdf; go_simp) rfl (by rw [if_neg (by decide)]; exact hS) (Turns.refl _ _)
   | 14, ho =>
    cases ho
    obtain ⟨_, h32, rfl⟩ := hdep 13 _ 32 rfl rfl rfl
    exact op_value (v := .slice (some ⟨u.heap.size, 0, none⟩) 1 1) (w' := u.alloc (.cells #[.string val] 9)) rfl (wanted_free rfl) (by clear hdep hsame hsz hdf; go_simp) ⟨u.heap.size, rfl, hsz0, isS_one u val mv⟩ (by rw [if_neg (by decide)]; exact hS.alloc hsz0 _) ((Turns.refl _ _).alloc _)
   | 15, ho =>
    cases ho
    obtain ⟨_, h28, rfl⟩ := hdep 9 _ 28 rfl rfl rfl
    obtain ⟨_, h29, rfl⟩ := hdep 10 _ 29 rfl rfl rfl
    obtain ⟨_, h30, rfl⟩ := hdep 11 _ 30 rfl rfl rfl
    obtain ⟨_, h33, g, rfl, hg, i0⟩ := hdep 14 _ 33 rfl rfl rfl
    refine op_call (w' := u) rfl (wanted_free rfl) (by clear hdep hsame hsz hdf i0; go_simp) ((cV u g HU.out i0).mono ?_)
    rintro y u' ⟨p, q, rfl, i1, j1, hb⟩
    exact ⟨_, rfl, ⟨p, q, rfl, i1, j1.mono hsz0⟩, by rw [if_neg (by decide)]; exact hS.trans (hb.mono hsz0), Turns.of_below hb⟩
   | 16, ho =>
    cases ho
    obtain ⟨_, h26, G1⟩ := hdep 7 _ 26 rfl rfl rfl
    obtain ⟨_, h34, G2⟩ := hdep 15 _ 34 rfl rfl rfl
    obtain ⟨x1, y1, rfl, i1, j1⟩ := id G1
    obtain ⟨x2, y2, rfl, i2, j2⟩ := id G2
    exact op_value (v := .agg #[.bool true, .slice x1 m1 y1, .slice x2 m2 y2, .slice none 0 0]) rfl (wanted_free rfl) (by clear hdep hsame hsz hdf G1 G2 i1 i2 j1 j2; go_simp) ⟨_, _, rfl, G1, G2⟩ (by rw [if_neg (by decide)]; exact hS) (Turns.refl _ _)
   | 17, ho =>
    cases ho
    have h4 := hsame 4 rfl
    obtain ⟨_, h35, u1, u2, rfl, G1, G2⟩ := hdep 16 _ 35 rfl rfl rfl
    obtain ⟨x1, y1, rfl, i1, j1⟩ := id G1
    obtain ⟨x2, y2, rfl, i2, j2⟩ := id G2
    have T4 := turns_put4 u z4 (.bool true) (.slice x1 m1 y1) (.slice x2 m2 y2) (.slice none 0 0)
    have HT : LeafT z4 V0.heap.size m1 m2 XS YS V0 ((((u.setCell ⟨z4, 0, none⟩ (.bool true)).setCell ⟨z4, 1, none⟩ (.slice x1 m1 y1)).setCell ⟨z4, 2, none⟩ (.slice x2 m2 y2)).setCell ⟨z4, 3, none⟩ (.slice none 0 0)) := ⟨_, _, B4.put _ _ _ _, G1.turns z4B T4, G2.turns z4B T4, (Turns.of_below hS).trans T4⟩
    exact op_skip rfl (wanted_free rfl) rfl (by clear hdep hsame hsz hdf G1 G2 i1 i2 j1 j2 T4 HT; go_simp) trivial (by rw [if_pos rfl]; exact HT) T4
   | k + 18, ho => simp at ho
  case done =>
   intro ac W3 hT hdf hsz hsame hval
   obtain ⟨v19, h19, hv19⟩ := hval 0 _ 19 rfl rfl
   obtain ⟨v20, h20, hv20⟩ := hval 1 _ 20 rfl rfl
   obtain ⟨v21, h21, hv21⟩ := hval 2 _ 21 rfl rfl
   obtain ⟨v22, h22, hv22⟩ := hval 3 _ 22 rfl rfl
   obtain ⟨v23, h23, hv23⟩ := hval 4 _ 23 rfl rfl
   obtain ⟨v24, h24, hv24⟩ := hval 5 _ 24 rfl rfl
   obtain ⟨v25, h25, hv25⟩ := hval 6 _ 25 rfl rfl
   obtain ⟨v26, h26, hv26⟩ := hval 7 _ 26 rfl rfl
   obtain ⟨v27, h27, hv27⟩ := hval 8 _ 27 rfl rfl
   obtain ⟨v28, h28, hv28⟩ := hval 9 _ 28 rfl rfl
   obtain ⟨v29, h29, hv29⟩ := hval 10 _ 29 rfl rfl
   obtain ⟨v30, h30, hv30⟩ := hval 11 _ 30 rfl rfl
   obtain ⟨v31, h31, hv31⟩ := hval 12 _ 31 rfl rfl
   obtain ⟨v32, h32, hv32⟩ := hval 13 _ 32 rfl rfl
   obtain ⟨v33, h33, hv33⟩ := hval 14 _ 33 rfl rfl
   obtain ⟨v34, h34, hv34⟩ := hval 15 _ 34 rfl rfl
   obtain ⟨v35, h35, hv35⟩ := hval 16 _ 35 rfl rfl
   obtain rfl := Anyorder.frame_is (l := [_, _, _, _, _, _, _, _, _, _, _, _, _, _, _, _, _, _, _, _, _, _, _, _, _, _, _, _, _, _, _, _, _, _, _, _]) ⟨(hsame 0 (Anyorder.unwritten (by kernel_rfl))).trans rfl, (hsame 1 (Anyorder.unwritten (by kernel_rfl))).trans rfl, (hsame 2 (Anyorder.unwritten (by kernel_rfl))).trans rfl, (hsame 3 (Anyorder.unwritten (by kernel_rfl))).trans rfl, (hsame 4 (Anyorder.unwritten (by kernel_rfl))).trans rfl, (hsame 5 (Anyorder.unwritten (by kernel_rfl))).trans rfl, (hsame 6 (Anyorder.unwritten (by kernel_rfl))).trans rfl, (hsame 7 (Anyorder.unwritten (by kernel_rfl))).trans rfl, (hsame 8 (Anyorder.unwritten (by kernel_rfl))).trans rfl, (hsame 9 (Anyorder.unwritten (by kernel_rfl))).trans rfl, (hsame 10 (Anyorder.unwritten (by kernel_rfl))).trans rfl, (hsame 11 (Anyorder.unwritten (by kernel_rfl))).trans rfl, (hsame 12 (Anyorder.unwritten (by kernel_rfl))).trans rfl, (hsame 13 (Anyorder.unwritten (by kernel_rfl))).trans rfl, (hsame 14 (Anyorder.unwritten (by kernel_rfl))).trans rfl, (hsame 15 (Anyorder.unwritten (by kernel_rfl))).trans rfl, (hsame 16 (Anyorder.unwritten (by kernel_rfl))).trans rfl, (hsame 17 (Anyorder.unwritten (by kernel_rfl))).trans rfl, (hsame 18 (Anyorder.unwritten (by kernel_rfl))).trans rfl, h19, h20, h21, h22, h23, h24, h25, h26, h27, h28, h29, h30, h31, h32, h33, h34, h35, trivial⟩ hdf hsz
   obtain ⟨u1, u2, X4, ⟨x1, y1, rfl, i1, j1⟩, ⟨x2, y2, rfl, i2, j2⟩, T3⟩ := hT
   have hle4 : w.heap.size ≤ V0.heap.size := HB.size
   have B5 : Below w.heap.size w W3 := Below.turns HB T3 (fun k hk => by omega)
   obtain ⟨⟨r0, r1, r2, r3⟩, -⟩ := X4
   clear hval hsame hsz hdf A2 A3 A4 HB T3
   go_wp2
   exact bodyPost_ret (v := .agg #[.bool true, .slice x1 m1 y1, .slice x2 m2 y2, .slice none 0 0]) (by simp [results, Tryz.results54, go_sem, r0, r1, r2, r3]) rfl ⟨x1, y1, x2, y2, rfl, i1, i2, by first | exact j1.mono hle4 | (rw [← E2.out]; exact j1.mono hle4), by first | exact j2.mono hle4 | (rw [← E2.out]; exact j2.mono hle4), by first | exact B5 | (rw [← E2.out]; exact B5)⟩
 | false =>
  obtain ⟨tj, htj⟩ : ∃ t : Int, t = (i : Int) := ⟨_, rfl⟩
  have ej : (j : Int) = tj := by rw [htj, hj]; simp
  rw [ej] at cK cV
  subst htj
  clear hn hn' hn'' hK hV hC hs hm1 hm2 cF0 e1 e2 h9 hr hsh hlen hfle hi hil hj hjn hij his ej hin
  go_enter Tryz.func54, Tryz.ntmps54
  go_wp2_with (go_at_call 66; rw [← hW]; refine (cF _ HB).mono ?_; rintro y w1 ⟨rfl, hb⟩; replace HB := Below.tr HB hb; replace A2 := A2.below hb; replace A3 := A3.below hb; replace A4 := A4.below hb; clear q0 q1 q2 q3 p0 p1 hb)
  generalize e4 : w.heap.size + 1 + 1 = z4
  generalize e3 : w.heap.size + 1 = z3
  generalize e2 : w.heap.size = z2
  obtain ⟨V0, hV0⟩ : ∃ V, V = w1.drew := ⟨_, rfl⟩
  replace HB : Below w.heap.size w V0 := by rw [hV0]; exact HB.drew
  replace A2 : Box4 V0 z2 (.bool true) (.slice a n c) (.slice a' n' c') (.slice a'' n'' c'') := by rw [hV0, ← e2]; exact A2.drew
  replace A3 : Box2 V0 z3 (.string key) (.string val) := by rw [hV0, ← e3]; exact A3.drew
  replace A4 : Box4 V0 z4 (.bool false) (.slice none 0 0) (.slice none 0 0) (.slice none 0 0) := by rw [hV0, ← e4]; exact A4.drew
  have z4B : z4 < V0.heap.size := A4.lt
  have hle4w : w.heap.size ≤ z4 := by omega
  have E2 : Hid (w.heap.size = z2) := e2
  have HV0 : Hid (V0 = w1.drew) := hV0
  clear e2 e3 e4 hV0 hW
  refine region_last (by kernel_rfl) 17 (pairV9 z2 z3 V0.heap.size m1 m2 (i : Int) i (.slice a n c) (.slice a' n' c') key val XS YS) (fun u => Below V0.heap.size V0 u) (LeafT z4 V0.heap.size m1 m2 XS YS V0) (fun u u' => Turns (fun k => k = z4) u u') (by kernel_rfl) (by kernel_rfl) (fun i v u u' t hv => pairV9_mono z4B i v u u' t hv) (by rw [← HV0.out]; exact Below.refl _ _) ?step ?done
  case step =>
   intro o op ho ac u hS hdf hsz hdep hsame
   have B2 := A2.below hS
   have B3 := A3.below hS
   have B4 := A4.below hS
   have hsz0 : V0.heap.size ≤ u.heap.size := hS.size
   have HU : Hid (Below w.heap.size w u) := Below.tr HB hS
   obtain ⟨⟨q0, q1, q2, q3⟩, -⟩ := id B2
   obtain ⟨⟨p0, p1⟩, -⟩ := id B3
   obtain ⟨⟨r0, r1, r2, r3⟩, g0, g1, g2, g3⟩ := id B4
   match o, ho with
   | 0, ho =>
    cases ho
    have h2 := hsame 2 rfl
    exact op_value rfl (wanted_free rfl) (by clear hdep hsame hsz hdf; go_simp) rfl (by rw [if_neg (by decide)]; exact hS) (Turns.refl _ _)
   | 1, ho =>
    cases ho
    obtain ⟨_, h19, rfl⟩ := hdep 0 _ 19 rfl rfl rfl
    exact op_value rfl (wanted_free rfl) (by clear hdep hsame hsz hdf; go_simp) rfl (by rw [if_neg (by decide)]; exact hS) (Turns.refl _ _)
   | 2, ho =>
    cases ho
    have h5 := hsame 5 rfl
    exact op_value rfl (wanted_free rfl) (by clear hdep hsame hsz hdf; go_simp) rfl (by rw [if_neg (by decide)]; exact hS) (Turns.refl _ _)
   | 3, ho =>
    cases ho
    have h7 := hsame 7 rfl
    exact op_value rfl (wanted_free rfl) (by clear hdep hsame hsz hdf; go_simp) rfl (by rw [if_neg (by decide)]; exact hS) (Turns.refl _ _)
   | 4, ho =>
    cases ho
    have h3 := hsame 3 rfl
    exact op_value rfl (wanted_free rfl) (by clear hdep hsame hsz hdf; go_simp) rfl (by rw [if_neg (by decide)]; exact hS) (Turns.refl _ _)
   | 5, ho =>
    cases ho
    obtain ⟨_, h23, rfl⟩ := hdep 4 _ 23 rfl rfl rfl
    exact op_value rfl (wanted_free rfl) (by clear hdep hsame hsz hdf; go_simp) rfl (by rw [if_neg (by decide)]; exact hS) (Turns.refl _ _)
   | 6, ho =>
    cases ho
    obtain ⟨_, h24, rfl⟩ := hdep 5 _ 24 rfl rfl rfl
    exact op_value (v := .slice (some ⟨u.heap.size, 0, none⟩) 1 1) (w' := u.alloc (.cells #[.string key] 9)) rfl (wanted_free rfl) (by clear hdep hsame hsz hdf; go_simp) ⟨u.heap.size, rfl, hsz0, isS_one u key mk⟩ (by rw [if_neg (by decide)]; exact hS.alloc hsz0 _) ((Turns.refl _ _).alloc _)
   | 7, ho =>
    cases ho
    obtain ⟨_, h20, rfl⟩ := hdep 1 _ 20 rfl rfl rfl
    obtain ⟨_, h21, rfl⟩ := hdep 2 _ 21 rfl rfl rfl
    obtain ⟨_, h22, rfl⟩ := hdep 3 _ 22 rfl rfl rfl
    obtain ⟨_, h25, g, rfl, hg, i0⟩ := hdep 6 _ 25 rfl rfl rfl
    refine op_call (w' := u) rfl (wanted_free rfl) (by clear hdep hsame hsz hdf i0; go_simp) ((cK u g HU.out i0).mono ?_)
    rintro y u' ⟨p, q, rfl, i1, j1, hb⟩
    exact ⟨_, rfl, ⟨p, q, rfl, i1, j1.mono hsz0⟩, by rw [if_neg (by decide)]; exact hS.trans (hb.mono hsz0), Turns.of_below hb⟩
   | 8, ho =>
    cases ho
    have h2 := hsame 2 rfl
    exact op_value rfl (wanted_free rfl) (by clear hdep hsame hsz hdf; go_simp) rfl (by rw [if_neg (by decide)]; exact hS) (Turns.refl _ _)
   | 9, ho =>
    cases ho
    obtain ⟨_, h27, rfl⟩ := hdep 8 _ 27 rfl rfl rfl
    exact op_value rfl (wanted_free rfl) (by clear hdep hsame hsz hdf; go_simp) rfl (by rw [if_neg (by decide)]; exact hS) (Turns.refl _ _)
   | 10, ho =>
    cases ho
    have h5 := hsame 5 rfl
    exact op_value rfl (wanted_free rfl) (by clear hdep hsame hsz hdf; go_simp) rfl (by rw [if_neg (by decide)]; exact hS) (Turns.refl _ _)
   | 11, ho =>
    cases ho
    have h7 := hsame 7 rfl
    exact op_value rfl (wanted_free rfl) (by clear hdep hsame hsz hdf; go_simp) rfl (by rw [if_neg (by decide)]; exact hS) (Turns.refl _ _)
   | 12, ho =>
    cases ho
    have h3 := hsame 3 rfl
    exact op_value rfl (wanted_free rfl) (by clear hdep hsame hsz hdf; go_simp) rfl (by rw [if_neg (by decide)]; exact hS) (Turns.refl _ _)
   | 13, ho =>
    cases ho
    obtain ⟨_, h31, rfl⟩ := hdep 12 _ 31 rfl rfl rfl
    exact op_value rfl (wanted_free rfl) (by clear hdep hsame hsz hdf; go_simp) rfl (by rw [if_neg (by decide)]; exact hS) (Turns.refl _ _)
   | 14, ho =>
    cases ho
    obtain ⟨_, h32, rfl⟩ := hdep 13 _ 32 rfl rfl rfl
    exact op_value (v := .slice (some ⟨u.heap.size, 0, none⟩) 1 1) (w' := u.alloc (.cells #[.string val] 9)) rfl (wanted_free rfl) (by clear hdep hsame hsz hdf; go_simp) ⟨u.heap.size, rfl, hsz0, isS_one u val mv⟩ (by rw [if_neg (by decide)]; exact hS.alloc hsz0 _) ((Turns.refl _ _).alloc _)
   | 15, ho =>
    cases ho
    obtain ⟨_, h28, rfl⟩ := hdep 9 _ 28 rfl rfl rfl
    obtain ⟨_, h29, rfl⟩ := hdep 10 _ 29 rfl rfl rfl
    obtain ⟨_, h30, rfl⟩ := hdep 11 _ 30 rfl rfl rfl
    obtain ⟨_, h33, g, rfl, hg, i0⟩ := hdep 14 _ 33 rfl rfl rfl
    refine op_call (w' := u) rfl (wanted_free rfl) (by clear hdep hsame hsz hdf i0; go_simp) ((cV u g HU.out i0).mono ?_)
    rintro y u' ⟨p, q, rfl, i1, j1, hb⟩
    exact ⟨_, rfl, ⟨p, q, rfl, i1, j1.mono hsz0⟩, by rw [if_neg (by decide)]; exact hS.trans (hb.mono hsz0), Turns.of_below hb⟩
   | 16, ho =>
    cases ho
    obtain ⟨_, h26, G1⟩ := hdep 7 _ 26 rfl rfl rfl
    obtain ⟨_, h34, G2⟩ := hdep 15 _ 34 rfl rfl rfl
    obtain ⟨x1, y1, rfl, i1, j1⟩ := id G1
    obtain ⟨x2, y2, rfl, i2, j2⟩ := id G2
    exact op_value (v := .agg #[.bool true, .slice x1 m1 y1, .slice x2 m2 y2, .slice none 0 0]) rfl (wanted_free rfl) (by clear hdep hsame hsz hdf G1 G2 i1 i2 j1 j2; go_simp) ⟨_, _, rfl, G1, G2⟩ (by rw [if_neg (by decide)]; exact hS) (Turns.refl _ _)
   | 17, ho =>
    cases ho
    have h4 := hsame 4 rfl
    obtain ⟨_, h35, u1, u2, rfl, G1, G2⟩ := hdep 16 _ 35 rfl rfl rfl
    obtain ⟨x1, y1, rfl, i1, j1⟩ := id G1
    obtain ⟨x2, y2, rfl, i2, j2⟩ := id G2
    have T4 := turns_put4 u z4 (.bool true) (.slice x1 m1 y1) (.slice x2 m2 y2) (.slice none 0 0)
    have HT : LeafT z4 V0.heap.size m1 m2 XS YS V0 ((((u.setCell ⟨z4, 0, none⟩ (.bool true)).setCell ⟨z4, 1, none⟩ (.slice x1 m1 y1)).setCell ⟨z4, 2, none⟩ (.slice x2 m2 y2)).setCell ⟨z4, 3, none⟩ (.slice none 0 0)) := ⟨_, _, B4.put _ _ _ _, G1.turns z4B T4, G2.turns z4B T4, (Turns.of_below hS).trans T4⟩
    exact op_skip rfl (wanted_free rfl) rfl (by clear hdep hsame hsz hdf G1 G2 i1 i2 j1 j2 T4 HT; go_simp) trivial (by rw [if_pos rfl]; exact HT) T4
   | k + 18, ho => simp at ho
  case done =>
   intro ac W3 hT hdf hsz hsame hval
   obtain ⟨v19, h19, hv19⟩ := hval 0 _ 19 rfl rfl
   obtain ⟨v20, h20, hv20⟩ := hval 1 _ 20 rfl rfl
   obtain ⟨v21, h21, hv21⟩ := hval 2 _ 21 rfl rfl
   obtain ⟨v22, h22, hv22⟩ := hval 3 _ 22 rfl rfl
   obtain ⟨v23, h23, hv23⟩ := hval 4 _ 23 rfl rfl
   obtain ⟨v24, h24, hv24⟩ := hval 5 _ 24 rfl rfl
   obtain ⟨v25, h25, hv25⟩ := hval 6 _ 25 rfl rfl
   obtain ⟨v26, h26, hv26⟩ := hval 7 _ 26 rfl rfl
   obtain ⟨v27, h27, hv27⟩ := hval 8 _ 27 rfl rfl
   obtain ⟨v28, h28, hv28⟩ := hval 9 _ 28 rfl rfl
   obtain ⟨v29, h29, hv29⟩ := hval 10 _ 29 rfl rfl
   obtain ⟨v30, h30, hv30⟩ := hval 11 _ 30 rfl rfl
   obtain ⟨v31, h31, hv31⟩ := hval 12 _ 31 rfl rfl
   obtain ⟨v32, h32, hv32⟩ := hval 13 _ 32 rfl rfl
   obtain ⟨v33, h33, hv33⟩ := hval 14 _ 33 rfl rfl
   obtain ⟨v34, h34, hv34⟩ := hval 15 _ 34 rfl rfl
   obtain ⟨v35, h35, hv35⟩ := hval 16 _ 35 rfl rfl
   obtain rfl := Anyorder.frame_is (l := [_, _, _, _, _, _, _, _, _, _, _, _, _, _, _, _, _, _, _, _, _, _, _, _, _, _, _, _, _, _, _, _, _, _, _, _]) ⟨(hsame 0 (Anyorder.unwritten (by kernel_rfl))).trans rfl, (hsame 1 (Anyorder.unwritten (by kernel_rfl))).trans rfl, (hsame 2 (Anyorder.unwritten (by kernel_rfl))).trans rfl, (hsame 3 (Anyorder.unwritten (by kernel_rfl))).trans rfl, (hsame 4 (Anyorder.unwritten (by kernel_rfl))).trans rfl, (hsame 5 (Anyorder.unwritten (by kernel_rfl))).trans rfl, (hsame 6 (Anyorder.unwritten (by kernel_rfl))).trans rfl, (hsame 7 (Anyorder.unwritten (by kernel_rfl))).trans rfl, (hsame 8 (Anyorder.unwritten (by kernel_rfl))).trans rfl, (hsame 9 (Anyorder.unwritten (by kernel_rfl))).trans rfl, (hsame 10 (Anyorder.unwritten (by kernel_rfl))).trans rfl, (hsame 11 (Anyorder.unwritten (by kernel_rfl))).trans rfl, (hsame 12 (Anyorder.unwritten (by kernel_rfl))).trans rfl, (hsame 13 (Anyorder.unwritten (by kernel_rfl))).trans rfl, (hsame 14 (Anyorder.unwritten (by kernel_rfl))).trans rfl, (hsame 15 (Anyorder.unwritten (by kernel_rfl))).trans rfl, (hsame 16 (Anyorder.unwritten (by kernel_rfl))).trans rfl, (hsame 17 (Anyorder.unwritten (by kernel_rfl))).trans rfl, (hsame 18 (Anyorder.unwritten (by kernel_rfl))).trans rfl, h19, h20, h21, h22, h23, h24, h25, h26, h27, h28, h29, h30, h31, h32, h33, h34, h35, trivial⟩ hdf hsz
   obtain ⟨u1, u2, X4, ⟨x1, y1, rfl, i1, j1⟩, ⟨x2, y2, rfl, i2, j2⟩, T3⟩ := hT
   have hle4 : w.heap.size ≤ V0.heap.size := HB.size
   have B5 : Below w.heap.size w W3 := Below.turns HB T3 (fun k hk => by omega)
   obtain ⟨⟨r0, r1, r2, r3⟩, -⟩ := X4
   clear hval hsame hsz hdf A2 A3 A4 HB T3
   go_wp2
   exact bodyPost_ret (v := .agg #[.bool true, .slice x1 m1 y1, .slice x2 m2 y2, .slice none 0 0]) (by simp [results, Tryz.results54, go_sem, r0, r1, r2, r3]) rfl ⟨x1, y1, x2, y2, rfl, i1, i2, by first | exact j1.mono hle4 | (rw [← E2.out]; exact j1.mono hle4), by first | exact j2.mono hle4 | (rw [← E2.out]; exact j2.mono hle4), by first | exact B5 | (rw [← E2.out]; exact B5)⟩
end Go.Proofs.YtaecfbfcjaailaaGreat
namespace Go.Proofs.YtaecfbfcjaailaaGreat
open Go.RowKit Plain
set_option linter.unusedVariables false
theorem str_empty {s : ByteArray} (h : s.size = 0) : s = ⟨#[]⟩ := by
 have h3 : s.data.size = 0 := h
 cases s with
 | mk d => simp at h3; subst h3; rfl
theorem str_full {s : ByteArray} (h : ¬ s.size = 0) : s.toList.isEmpty = false := by
 have h3 : ¬ s.toList = [] := fun e => h (by rw [ByteArray.toList_eq] at e; exact (size_list s).symm.trans (by rw [e]; rfl))
 cases hh : s.toList with
 | nil => exact absurd hh h3
 | cons _ _ => rfl
theorem getD_some {α : Type} {xs : List α} {i : Nat} {x d : α} (h : xs[i]? = some x) : xs.getD i d = x := by rw [List.getD_eq_getElem?_getD, h]; rfl
set_option maxRecDepth 20000 in
set_option maxHeartbeats 1000000 in
theorem placeWithin_any (block depth : Int) (low high : ByteArray) (a : Option Addr) (n c : Nat) (ks : List ByteArray) (w : World) (hn : n = ks.length) (hK : IsS w a c ks) :
  Calls Tryz.prog 64 #[.agg #[.int .i64 block, .int .i64 depth, .string low, .string high], .slice a n c] w fun e w' => e = .returned (.bool (withinK ks low high)) ∧ Below w.heap.size w w' := by
 have HB : Below w.heap.size w (w.alloc (.cells #[.int .i64 block, .int .i64 depth, .string low, .string high] 89)) := (Below.refl _ _).alloc (Nat.le_refl _) _
 obtain ⟨⟨x0, x1, x2, x3⟩, -⟩ := box4_new w (.int .i64 block) (.int .i64 depth) (.string low) (.string high) 89 rfl
 have mn : n ≤ 9223372036854775807 := by rw [hn]; exact Nat.le_trans hK.1 hK.2.1
 obtain ⟨r, hr⟩ : ∃ r, r = withinK ks low high := ⟨_, rfl⟩
 rw [← hr]
 cases ks with
 | nil =>
  have hrf : Hid (r = false) := by show _ = _; rw [hr]; rfl
  simp at hn
  subst hn
  clear hr hK
  go_enter Tryz.func64, Tryz.ntmps64
  go_wp2
  go_ret
  exact ⟨by rw [hrf.out]; rfl, HB⟩
 | cons k ks =>
  have hl : (k :: ks).length - 1 < (k :: ks).length := by simp
  obtain ⟨z, hz⟩ : ∃ z, (k :: ks)[(k :: ks).length - 1]? = some z := ⟨_, List.getElem?_eq_getElem hl⟩
  obtain ⟨b, o, rfl, -, hc0, -⟩ := hK.2.2 0 k rfl
  obtain ⟨b', o', heq, -, hc1, -⟩ := hK.2.2 _ z hz
  cases heq
  have hr1 : r = (!ltB k low && (decide (high.size = 0) || ltB z high)) := by rw [hr]; unfold withinK; rw [getD_some hz]; rfl
  rw [← hn] at hc1
  have z0 := cell_alloc hc0 (.cells #[.int .i64 block, .int .i64 depth, .string low, .string high] 89)
  have z1 := cell_alloc hc1 (.cells #[.int .i64 block, .int .i64 depth, .string low, .string high] 89)
  rw [Nat.add_zero] at z0
  obtain ⟨m, hm⟩ : ∃ m, n = m + 1 := ⟨n - 1, by rw [hn]; simp⟩
  subst hm
  rw [Nat.add_sub_cancel] at z1
  have k0 : (0 : Int) < ((m + 1 : Nat) : Int) := by omega
  have k1 : ¬ ((m + 1 : Nat) : Int) = 0 := by omega
  have k2 : ((m : Nat) : Int) < ((m + 1 : Nat) : Int) := by omega
  have k3 : ((m + 1 : Nat) : Int) - 1 = m := by omega
  clear hr hn hK hz hl hc0 hc1
  cases h1 : ltB k low with
  | true =>
   have h1' : Op.bytesLess k.toList low.toList = true := h1
   have hrf : Hid (r = false) := by show _ = _; rw [hr1, h1]; rfl
   clear hr1 h1
   go_enter Tryz.func64, Tryz.ntmps64
   go_wp2
   go_region
   go_wp2
   go_ret
   exact ⟨by rw [hrf.out]; rfl, HB.drew⟩
  | false =>
   have h1' : Op.bytesLess k.toList low.toList = false := h1
   by_cases h2 : high.size = 0
   ·
    obtain rfl := str_empty h2
    have hrf : Hid (r = true) := by show _ = _; rw [hr1, h1]; rfl
    clear hr1 h1
    go_enter Tryz.func64, Tryz.ntmps64
    go_wp2
    go_region
    go_wp2
    go_ret
    exact ⟨by rw [hrf.out]; rfl, HB.drew⟩
   ·
    have h5 := str_full h2
    cases h4 : ltB z high with
    | true =>
     have h4' : Op.bytesLess z.toList high.toList = true := h4
     have hrf : Hid (r = true) := by show _ = _; rw [hr1, h1, h4]; simp
     clear hr1 h1 h2 h4
     go_enter Tryz.func64, Tryz.ntmps64
     go_wp2
     go_region
     go_wp2
     go_ret
     exact ⟨by rw [hrf.out]; rfl, HB.drew⟩
    | false =>
     have h4' : Op.bytesLess z.toList high.toList = false := h4
     have hrf : Hid (r = false) := by show _ = _; rw [hr1, h1, h4]; simp [h2]
     clear hr1 h1 h2 h4
     go_enter Tryz.func64, Tryz.ntmps64
     go_wp2
     go_region
     go_wp2
     go_ret
     exact ⟨by rw [hrf.out]; rfl, HB.drew⟩
def levelW (V : World) (h : Nat) (lv d : Int) : World := if lv = 0 then V.setCell ⟨h, 5, none⟩ (.int .i64 d) else V
set_option maxRecDepth 20000 in
theorem level_any (V : World) (h : Nat) (v0 v1 v2 v3 v4 : Value) (lv d : Int) (b : WalkBox V h v0 v1 v2 v3 v4 lv) :
  Calls Tryz.prog 65 #[.pointer (some ⟨h, 0, none⟩), .int .i64 d] V fun e w' => e = .returned (.bool (decide (lv = 0 ∨ lv = d))) ∧ levelW V h lv d = w' := by
 obtain ⟨-, c5, f5⟩ := b
 unfold levelW
 by_cases h0 : lv = 0
 ·
  subst h0
  rw [if_pos rfl]
  have s5 : (V.setCell ⟨h, 5, none⟩ (.int .i64 d)).cell? ⟨h, 5, none⟩ = some (.int .i64 d) := World.cell?_setCell_same _ _ _ c5
  go_enter Tryz.func65, Tryz.ntmps65
  go_wp2
  go_ret
  exact ⟨ret_bool (by simp), rfl⟩
 ·
  rw [if_neg h0]
  have h0' : (lv == 0) = false := by simpa using h0
  have hrf : Hid (decide (lv = 0 ∨ lv = d) = (lv == d)) := by show _ = _; simp [h0]; rfl
  go_enter Tryz.func65, Tryz.ntmps65
  go_wp2
  go_ret
  exact ⟨ret_bool hrf.out.symm, rfl⟩
set_option maxRecDepth 20000 in
theorem top_any (V : World) (h : Nat) (v0 v1 v2 v4 : Value) (root : Int) (b : WoodBox V h v0 v1 v2 (.int .i64 root) v4) :
  Calls Tryz.prog 46 #[.pointer (some ⟨h, 0, none⟩)] V fun e w' => e = .returned (.agg #[.int .i64 root, .int .i64 1, .string ⟨#[]⟩, .string ⟨#[]⟩]) ∧ Below V.heap.size V w' := by
 have HB : Below V.heap.size V (V.alloc (.cells #[.int .i64 0, .int .i64 0, .string ⟨#[]⟩, .string ⟨#[]⟩] 89)) := (Below.refl _ _).alloc (Nat.le_refl _) _
 have BP := box4_new V (.int .i64 0) (.int .i64 0) (.string ⟨#[]⟩) (.string ⟨#[]⟩) 89 rfl
 obtain ⟨x0, x1, x2, x3, x4⟩ := b.below HB
 obtain ⟨⟨r0, r1, r2, r3⟩, f0, f1, f2, f3⟩ := id BP
 go_enter Tryz.func46, Tryz.ntmps46
 go_wp2
 refine bodyPost_ret (v := .agg #[.int .i64 root, .int .i64 1, .string ⟨#[]⟩, .string ⟨#[]⟩]) (by simp [results, Tryz.results46, go_sem]) rfl ?_
 exact ⟨rfl, (Below.refl _ _).alloc (Nat.le_refl _) _⟩
set_option maxRecDepth 20000 in
set_option maxHeartbeats 2000000 in
theorem placeBelow_any (block depth : Int) (low high : ByteArray) (l : Bool) (a a' a'' : Option Addr) (n c n' c' n'' c'' : Nat) (ks vs : List ByteArray) (cs : List Int) (i : Nat) (kb : Int) (w : World) (e1 : n = ks.length) (e3 : n'' = cs.length) (i1 : IsS w a c ks) (i3 : IsI w a'' c'' cs) (hi : cs[i]? = some kb) (hc : cs.length = ks.length + 1) (hd : 0 ≤ depth ∧ depth ≤ 100) :
  Calls Tryz.prog 49 #[.agg #[.int .i64 block, .int .i64 depth, .string low, .string high], .agg #[.bool l, .slice a n c, .slice a' n' c', .slice a'' n'' c''], .int .i64 i] w fun e w' => e = .returned (.agg #[.int .i64 kb, .int .i64 (depth + 1), .string (kidFrom low ks i), .string (kidTo high ks i)]) ∧ Below w.heap.size w w' := by
 obtain ⟨W, hW⟩ : ∃ W, W = ((w.alloc (.cells #[.int .i64 block, .int .i64 depth, .string low, .string high] 89)).alloc (.cells #[.bool l, .slice a n c, .slice a' n' c', .slice a'' n'' c''] 76)).alloc (.cells #[.int .i64 0, .int .i64 0, .string ⟨#[]⟩, .string ⟨#[]⟩] 89) := ⟨_, rfl⟩
 have HB : Below w.heap.size w W := by rw [hW]; exact (((Below.refl _ _).alloc (Nat.le_refl _) _).alloc (by simp) _).alloc (by simp only [World.size_alloc]; omega) _
 have BP : Box4 W w.heap.size (.int .i64 block) (.int .i64 depth) (.string low) (.string high) := by rw [hW]; exact ((box4_new _ _ _ _ _ _ rfl).alloc _).alloc _
 have BN : Box4 W (w.heap.size + 1) (.bool l) (.slice a n c) (.slice a' n' c') (.slice a'' n'' c'') := by rw [hW]; exact (box4_new _ _ _ _ _ _ (by simp)).alloc _
 have BR : Box4 W (w.heap.size + 1 + 1) (.int .i64 0) (.int .i64 0) (.string ⟨#[]⟩) (.string ⟨#[]⟩) := by rw [hW]; exact box4_new _ _ _ _ _ _ (by simp)
 have mn : n ≤ 9223372036854775807 := by rw [e1]; exact Nat.le_trans i1.1 i1.2.1
 have mn'' : n'' ≤ 9223372036854775807 := by rw [e3]; exact Nat.le_trans i3.1 i3.2.1
 have hil := (List.getElem?_eq_some_iff.1 hi).1
 have hi' : (i : Int) < n'' := by omega
 obtain ⟨b, o, rfl, -, hc0⟩ := i3.2.2 i kb hi
 have z := cell_below HB hc0
 have hdw : IntKind.i64.wrap (depth + 1) = depth + 1 := by rw [IntKind.wrap_i64]; omega
 obtain ⟨x, hx⟩ : ∃ x, x = kidFrom low ks i := ⟨_, rfl⟩
 obtain ⟨y, hy⟩ : ∃ y, y = kidTo high ks i := ⟨_, rfl⟩
 rw [← hx, ← hy]
 obtain ⟨⟨p0, p1, p2, p3⟩, -⟩ := id (hW ▸ BP)
 obtain ⟨⟨q0, q1, q2, q3⟩, -⟩ := id (hW ▸ BN)
 obtain ⟨⟨r0, r1, r2, r3⟩, f0, f1, f2, f3⟩ := id (hW ▸ BR)
 rw [hW] at z
 have z' := cell_alloc z (.cells #[.int .i64 0, .int .i64 0, .string ⟨#[]⟩, .string ⟨#[]⟩] 89)
 have E1 : Hid (n = ks.length ∧ n'' = cs.length ∧ cs.length = ks.length + 1) := ⟨e1, e3, hc⟩
 have I1 : Hid (IsS w a c ks) := i1
 have X : Hid (x = kidFrom low ks i ∧ y = kidTo high ks i) := ⟨hx, hy⟩
 clear e1 e3 hc hi hil i1 i3 hc0 hx hy
 go_enter Tryz.func49, Tryz.ntmps49
 go_wp2
 go_region
 rw [← hW]
 have HU : Below W.heap.size W (W.alloc (.cells #[.int .i64 kb, .int .i64 (depth + 1), .string low, .string high] 89)).drew := ((Below.refl _ _).alloc (Nat.le_refl _) _).drew
 have hWs : W.heap.size = w.heap.size + 1 + 1 + 1 := by rw [hW]; simp
 have BK : Box4 (W.alloc (.cells #[.int .i64 kb, .int .i64 (depth + 1), .string low, .string high] 89)).drew (w.heap.size + 1 + 1 + 1) (.int .i64 kb) (.int .i64 (depth + 1)) (.string low) (.string high) := (box4_new _ _ _ _ _ _ hWs.symm).drew
 generalize (W.alloc (.cells #[.int .i64 kb, .int .i64 (depth + 1), .string low, .string high] 89)).drew = U at HU BK ⊢
 replace HB := Below.tr HB HU
 replace BN := BN.below HU
 replace BR := BR.below HU
 clear p0 p1 p2 p3 q0 q1 q2 q3 r0 r1 r2 r3 f0 f1 f2 f3 z z' hW BP HU hWs
 have hil : i ≤ ks.length := by have := E1.out; omega
 by_cases h0 : i = 0
 ·
  by_cases h1 : i < ks.length
  ·
   obtain ⟨⟨q0, q1, q2, q3⟩, -⟩ := id BN
   obtain ⟨⟨k0, k1, k2, k3⟩, kf0, kf1, kf2, kf3⟩ := id BK
   obtain rfl : x = low := by rw [X.out.1]; unfold kidFrom; rw [if_pos h0]
   have hm0 : ¬ (0 : Int) < i := by omega
   obtain ⟨ky, hky⟩ : ∃ k, Hid (ks[i]? = some k) := get_some h1
   obtain ⟨b1, o1, rfl, hlt1, hc2, -⟩ := I1.out.2.2 i ky hky.out
   have zk := cell_below HB hc2
   obtain rfl : y = ky := by rw [X.out.2]; unfold kidTo; rw [if_pos h1]; exact getD_some hky.out
   have hn1 : (i : Int) < n := by have := E1.out; omega
   replace BK := BK.set3 (.string y)
   replace BR := BR.other (p := ⟨w.heap.size + 1 + 1 + 1, 3, none⟩) (by simp) (.string y)
   replace HB : Below w.heap.size w (U.setCell ⟨w.heap.size + 1 + 1 + 1, 3, none⟩ (.string y)) := HB.setCell (by simp; omega) _
   obtain ⟨⟨u0, u1, u2, u3⟩, -⟩ := id BK
   obtain ⟨⟨r0, r1, r2, r3⟩, rf0, rf1, rf2, rf3⟩ := id BR
   clear hil h0 h1 X E1 I1 BN BK BR hd mn'' hi' hky hc2 hlt1
   go_wp2
   refine bodyPost_ret (v := .agg #[.int .i64 kb, .int .i64 (depth + 1), .string x, .string y]) (by simp [results, Tryz.results49, go_sem, r0, r1, r2, r3]) rfl ?_
   exact ⟨rfl, below_put4 HB (by omega) _ _ _ _⟩
  ·
   obtain ⟨⟨q0, q1, q2, q3⟩, -⟩ := id BN
   obtain ⟨⟨k0, k1, k2, k3⟩, kf0, kf1, kf2, kf3⟩ := id BK
   obtain rfl : x = low := by rw [X.out.1]; unfold kidFrom; rw [if_pos h0]
   have hm0 : ¬ (0 : Int) < i := by omega
   obtain rfl : y = high := by rw [X.out.2]; unfold kidTo; rw [if_neg h1]
   have hn1 : ¬ (i : Int) < n := by have := E1.out; omega
   obtain ⟨⟨r0, r1, r2, r3⟩, rf0, rf1, rf2, rf3⟩ := id BR
   clear hil h0 h1 X E1 I1 BN BK BR hd mn'' hi'
   go_wp2
   refine bodyPost_ret (v := .agg #[.int .i64 kb, .int .i64 (depth + 1), .string x, .string y]) (by simp [results, Tryz.results49, go_sem, r0, r1, r2, r3]) rfl ?_
   exact ⟨rfl, below_put4 HB (by omega) _ _ _ _⟩
 ·
  by_cases h1 : i < ks.length
  ·
   obtain ⟨⟨q0, q1, q2, q3⟩, -⟩ := id BN
   obtain ⟨⟨k0, k1, k2, k3⟩, kf0, kf1, kf2, kf3⟩ := id BK
   obtain ⟨m, hm⟩ : ∃ m : Nat, (i : Int) - 1 = m := ⟨i - 1, by omega⟩
   obtain ⟨kx, hkx⟩ : ∃ k, Hid (ks[m]? = some k) := get_some (by omega)
   obtain ⟨b1, o1, rfl, hlt1, hc1, -⟩ := I1.out.2.2 m kx hkx.out
   have zm := cell_below HB hc1
   have hm1 : (m : Int) < n := by have := E1.out; omega
   obtain rfl : x = kx := by rw [X.out.1]; unfold kidFrom; rw [if_neg h0, show i - 1 = m by omega]; exact getD_some hkx.out
   replace BK := BK.set2 (.string x)
   replace BN := BN.other (p := ⟨w.heap.size + 1 + 1 + 1, 2, none⟩) (fun e => by have e' : w.heap.size + 1 + 1 + 1 = w.heap.size + 1 := e; omega) (.string x)
   replace BR := BR.other (p := ⟨w.heap.size + 1 + 1 + 1, 2, none⟩) (by simp) (.string x)
   replace HB : Below w.heap.size w (U.setCell ⟨w.heap.size + 1 + 1 + 1, 2, none⟩ (.string x)) := HB.setCell (by simp; omega) _
   obtain ⟨⟨s0, s1, s2, s3⟩, -⟩ := id BN
   obtain ⟨⟨t0, t1, t2, t3⟩, tf0, tf1, tf2, tf3⟩ := id BK
   have hm0 : (0 : Int) < i := by omega
   obtain ⟨ky, hky⟩ : ∃ k, Hid (ks[i]? = some k) := get_some h1
   obtain ⟨b2, o2, heq, -, hc2, -⟩ := I1.out.2.2 i ky hky.out
   cases heq
   have zk := cell_below HB hc2
   obtain rfl : y = ky := by rw [X.out.2]; unfold kidTo; rw [if_pos h1]; exact getD_some hky.out
   have hn1 : (i : Int) < n := by have := E1.out; omega
   replace BK := BK.set3 (.string y)
   replace BR := BR.other (p := ⟨w.heap.size + 1 + 1 + 1, 3, none⟩) (by simp) (.string y)
   replace HB : Below w.heap.size w ((U.setCell ⟨w.heap.size + 1 + 1 + 1, 2, none⟩ (.string x)).setCell ⟨w.heap.size + 1 + 1 + 1, 3, none⟩ (.string y)) := HB.setCell (by simp; omega) _
   obtain ⟨⟨u0, u1, u2, u3⟩, -⟩ := id BK
   obtain ⟨⟨r0, r1, r2, r3⟩, rf0, rf1, rf2, rf3⟩ := id BR
   clear hil h0 h1 X E1 I1 BN BK BR hd mn'' hi' hkx hlt1 hc1 hky hc2
   go_wp2
   refine bodyPost_ret (v := .agg #[.int .i64 kb, .int .i64 (depth + 1), .string x, .string y]) (by simp [results, Tryz.results49, go_sem, r0, r1, r2, r3]) rfl ?_
   exact ⟨rfl, below_put4 HB (by omega) _ _ _ _⟩
  ·
   obtain ⟨⟨q0, q1, q2, q3⟩, -⟩ := id BN
   obtain ⟨⟨k0, k1, k2, k3⟩, kf0, kf1, kf2, kf3⟩ := id BK
   obtain ⟨m, hm⟩ : ∃ m : Nat, (i : Int) - 1 = m := ⟨i - 1, by omega⟩
   obtain ⟨kx, hkx⟩ : ∃ k, Hid (ks[m]? = some k) := get_some (by omega)
   obtain ⟨b1, o1, rfl, hlt1, hc1, -⟩ := I1.out.2.2 m kx hkx.out
   have zm := cell_below HB hc1
   have hm1 : (m : Int) < n := by have := E1.out; omega
   obtain rfl : x = kx := by rw [X.out.1]; unfold kidFrom; rw [if_neg h0, show i - 1 = m by omega]; exact getD_some hkx.out
   replace BK := BK.set2 (.string x)
   replace BN := BN.other (p := ⟨w.heap.size + 1 + 1 + 1, 2, none⟩) (fun e => by have e' : w.heap.size + 1 + 1 + 1 = w.heap.size + 1 := e; omega) (.string x)
   replace BR := BR.other (p := ⟨w.heap.size + 1 + 1 + 1, 2, none⟩) (by simp) (.string x)
   replace HB : Below w.heap.size w (U.setCell ⟨w.heap.size + 1 + 1 + 1, 2, none⟩ (.string x)) := HB.setCell (by simp; omega) _
   obtain ⟨⟨s0, s1, s2, s3⟩, -⟩ := id BN
   obtain ⟨⟨t0, t1, t2, t3⟩, tf0, tf1, tf2, tf3⟩ := id BK
   have hm0 : (0 : Int) < i := by omega
   obtain rfl : y = high := by rw [X.out.2]; unfold kidTo; rw [if_neg h1]
   have hn1 : ¬ (i : Int) < n := by have := E1.out; omega
   obtain ⟨⟨r0, r1, r2, r3⟩, rf0, rf1, rf2, rf3⟩ := id BR
   clear hil h0 h1 X E1 I1 BN BK BR hd mn'' hi' hkx hlt1 hc1
   go_wp2
   refine bodyPost_ret (v := .agg #[.int .i64 kb, .int .i64 (depth + 1), .string x, .string y]) (by simp [results, Tryz.results49, go_sem, r0, r1, r2, r3]) rfl ?_
   exact ⟨rfl, below_put4 HB (by omega) _ _ _ _⟩
structure Only5 (h : Nat) (V V' : World) : Prop where
 t : Turns (fun k => k = h) V V'
 c : ∀ i v, i ≠ 5 → V.cell? ⟨h, i, none⟩ = some v → V'.cell? ⟨h, i, none⟩ = some v
 f : ∀ i v, V.cell? ⟨h, i, none⟩ = some v → V.frozen? ⟨h, i, none⟩ = false → V'.frozen? ⟨h, i, none⟩ = false
theorem Only5.of_below {h : Nat} {V V' : World} (hb : Below V.heap.size V V') : Only5 h V V' :=
 ⟨Turns.of_below hb, fun i v _ hc => cell_below hb hc, fun i v hc hf => by rw [hb.frozen (p := ⟨h, i, none⟩) (cell_lt hc)]; exact hf⟩
theorem only5_set {h : Nat} (V : World) (v : Value) : Only5 h V (V.setCell ⟨h, 5, none⟩ v) :=
 ⟨Turns.setCell (P := fun k => k = h) (Turns.refl _ _) (p := ⟨h, 5, none⟩) rfl _, fun i u hi hc => by rw [World.cell?_setCell_other _ _ _ _ (fun hh => by cases hh; exact hi rfl)]; exact hc, fun i u hc hf => by rw [World.frozen?_setCell]; exact hf⟩
theorem only5_level {h : Nat} (V : World) (lv d : Int) : Only5 h V (levelW V h lv d) := by
 unfold levelW
 split
 ·
  exact only5_set V _
 ·
  exact Only5.of_below (Below.refl _ _)
theorem Only5.low {h : Nat} {V U U' : World} (hb : Only5 h V U) (t : Only5 h U U') (c5 : ∀ i v, V.cell? ⟨h, i, none⟩ = some v → ∃ u, U.cell? ⟨h, i, none⟩ = some u) : Only5 h V U' :=
 ⟨hb.t.trans t.t, fun i v hi hc => t.c i v hi (hb.c i v hi hc), fun i v hc hf => by
  obtain ⟨u, hu⟩ := c5 i v hc
  exact t.f i u hu (hb.f i v hc hf)⟩
theorem WalkBox.level {V : World} {h : Nat} {v0 v1 v2 v3 v4 : Value} {lv : Int} (b : WalkBox V h v0 v1 v2 v3 v4 lv) (d : Int) : WalkBox (levelW V h lv d) h v0 v1 v2 v3 v4 (if lv = 0 then d else lv) := by
 unfold levelW
 split
 ·
  obtain ⟨⟨c0, c1, c2, c3, c4⟩, c5, f5⟩ := b
  refine ⟨⟨?_, ?_, ?_, ?_, ?_⟩, World.cell?_setCell_same _ _ _ c5, by rw [World.frozen?_setCell]; exact f5⟩
  all_goals (rw [World.cell?_setCell_other _ _ _ _ (fun hh => by cases hh)]; assumption)
 ·
  exact b
def levelO (O : Option NodeS) (lv d : Int) : Int := match O with
 | some n => if n.1 = true then d else lv
 | none => lv
def seenO (O : Option NodeS) (low high : ByteArray) (lv d : Int) : Option NodeS := match O with
 | none => none
 | some n => if withinK n.2.1 low high = true ∧ (n.1 = true → lv = 0 ∨ lv = d) then some n else none
theorem visitS_seen (H : Int → Bool → Option NodeS) (lv : Int) (k : Nat) (block : Int) (low high : ByteArray) : visitS H lv (k + 1) block low high = seenO (H block (decide (k = 7))) low high lv (8 - (k : Int)) := by
 unfold visitS seenO
 simp only
 cases H block (decide (k = 7)) <;> rfl
def VisitC (V : World) (h : Nat) (v0 v1 v2 v3 v4 : Value) (x : Ending) (V' : World) (lv : Int) (nd : NodeS) (E : Int) : Prop :=
 ∃ k1 a1 d1 k2 a2 d2 k3 a3 d3, x = .returned (.tuple #[.agg #[.bool nd.1, .slice a1 k1 d1, .slice a2 k2 d2, .slice a3 k3 d3], .int .i64 E]) ∧ k1 = nd.2.1.length ∧ k2 = nd.2.2.1.length ∧ k3 = nd.2.2.2.length ∧
  IsS V' a1 d1 nd.2.1 ∧ IsS V' a2 d2 nd.2.2.1 ∧ IsI V' a3 d3 nd.2.2.2 ∧ From V.heap.size a1 ∧ From V.heap.size a2 ∧ From V.heap.size a3 ∧ WalkBox V' h v0 v1 v2 v3 v4 lv ∧ Only5 h V V'
theorem Only5.put {h g : Nat} {V U : World} (t : Only5 h V U) (hh : h < V.heap.size) (hg : V.heap.size ≤ g) (u0 u1 u2 u3 : Value) : Only5 h V ((((U.setCell ⟨g, 0, none⟩ u0).setCell ⟨g, 1, none⟩ u1).setCell ⟨g, 2, none⟩ u2).setCell ⟨g, 3, none⟩ u3) := by
 have hne : ∀ (i j : Nat), (⟨h, i, none⟩ : Addr) ≠ ⟨g, j, none⟩ := fun i j e => by cases e; omega
 have T := turns_put4 U g u0 u1 u2 u3
 refine ⟨⟨T.os.trans t.t.os, T.tape.trans t.t.tape, T.output.trans t.t.output, Nat.le_trans t.t.size T.size, fun k hk hp => ?_⟩, fun i v hi hc => ?_, fun i v hc hf => ?_⟩
 ·
  exact (T.block k (Nat.lt_of_lt_of_le hk t.t.size) (by omega)).trans (t.t.block k hk hp)
 ·
  exact T.cell (p := ⟨h, i, none⟩) (show ¬ h = g by omega) (t.c i v hi hc)
 ·
  rw [World.frozen?_setCell, World.frozen?_setCell, World.frozen?_setCell, World.frozen?_setCell]
  exact t.f i v hc hf
theorem WalkBox.put {h g : Nat} {U : World} {v0 v1 v2 v3 v4 : Value} {lv : Int} (b : WalkBox U h v0 v1 v2 v3 v4 lv) (hg : h ≠ g) (u0 u1 u2 u3 : Value) : WalkBox ((((U.setCell ⟨g, 0, none⟩ u0).setCell ⟨g, 1, none⟩ u1).setCell ⟨g, 2, none⟩ u2).setCell ⟨g, 3, none⟩ u3) h v0 v1 v2 v3 v4 lv := by
 have hne : ∀ (i j : Nat), (⟨h, i, none⟩ : Addr) ≠ ⟨g, j, none⟩ := fun i j e => by cases e; exact hg rfl
 have T := turns_put4 U g u0 u1 u2 u3
 exact ⟨b.1.turns T hg, T.cell (p := ⟨h, 5, none⟩) hg b.2.1, by rw [World.frozen?_setCell, World.frozen?_setCell, World.frozen?_setCell, World.frozen?_setCell]; exact b.2.2⟩
theorem visitC_none {V U : World} {h : Nat} {v0 v1 v2 v3 v4 : Value} {lv E : Int} (b : WalkBox U h v0 v1 v2 v3 v4 lv) (t : Only5 h V U) : VisitC V h v0 v1 v2 v3 v4 (.returned (.tuple #[.agg #[.bool false, .slice none 0 0, .slice none 0 0, .slice none 0 0], .int .i64 E])) U lv (false, [], [], []) E :=
 ⟨_, _, _, _, _, _, _, _, _, rfl, rfl, rfl, rfl, isS_nil _, isS_nil _, isI_nil _, from_nil _, from_nil _, from_nil _, b, t⟩
set_option maxRecDepth 20000 in
set_option maxHeartbeats 4000000 in
theorem visit_any (w V : World) (h : Nat) (a a' b : Option Addr) (n c n' c' p f : Nat) (ns : List Bool) (ps : List ByteArray) (root gen block d : Int) (low high : ByteArray) (k : Nat) (lv : Int) (hn' : n' = ns.length) (hp : p = ps.length) (hpn : p = n') (hV : Below w.heap.size w V) (hB' : IsB w a' c' ns) (hP : IsS w b f ps)
  (hk : k ≤ 8) (hd : d = 9 - (k : Int)) (WB : WalkBox V h (.slice a n c) (.slice a' n' c') (.slice b p f) (.int .i64 root) (.int .i64 gen) lv) :
  Calls Tryz.prog 47 #[.pointer (some ⟨h, 0, none⟩), .agg #[.int .i64 block, .int .i64 d, .string low, .string high]] V fun x V' => VisitC V h (.slice a n c) (.slice a' n' c') (.slice b p f) (.int .i64 root) (.int .i64 gen) x V' (levelO (visitS (holdsS ns ps gen) lv k block low high) lv d) (nodeO (visitS (holdsS ns ps gen) lv k block low high)) (errO (visitS (holdsS ns ps gen) lv k block low high)) := by
 obtain ⟨W, hW⟩ : ∃ W, W = (V.alloc (.cells #[.int .i64 block, .int .i64 d, .string low, .string high] 89)).alloc (.cells #[.bool false, .slice none 0 0, .slice none 0 0, .slice none 0 0] 76) := ⟨_, rfl⟩
 have OV : Below V.heap.size V W := by rw [hW]; exact ((Below.refl _ _).alloc (Nat.le_refl _) _).alloc (by simp) _
 have HB : Below w.heap.size w W := Below.tr hV OV
 have hlt : h < V.heap.size := cell_lt WB.2.1
 have BP : Box4 W V.heap.size (.int .i64 block) (.int .i64 d) (.string low) (.string high) := by rw [hW]; exact (box4_new _ _ _ _ _ _ rfl).alloc _
 have BR : Box4 W (V.heap.size + 1) (.bool false) (.slice none 0 0) (.slice none 0 0) (.slice none 0 0) := by rw [hW]; exact box4_new _ _ _ _ _ _ (by simp)
 replace WB := WB.below OV
 obtain ⟨O, hO⟩ : ∃ O, O = visitS (holdsS ns ps gen) lv k block low high := ⟨_, rfl⟩
 rw [← hO]
 obtain ⟨rt, hrt⟩ : ∃ rt : Bool, (d == 1) = rt := ⟨_, rfl⟩
 obtain ⟨O1, hO1⟩ : ∃ O, O = holdsS ns ps gen block rt := ⟨_, rfl⟩
 have cL0 : ∀ U, Below w.heap.size w U → WoodBox U h (.slice a n c) (.slice a' n' c') (.slice b p f) (.int .i64 root) (.int .i64 gen) → Calls Tryz.prog 63 #[.pointer (some ⟨h, 0, none⟩), .int .i64 block, .bool rt] U fun x V' => Answers U x V' (nodeO O1).1 (nodeO O1).2.1 (nodeO O1).2.2.1 (nodeO O1).2.2.2 (errO O1) := fun U hU hb => by
  refine (load_any h a a' b n c n' c' p f ns ps root gen block rt U hn' hp hpn hb (hB'.below hU) (hP.below hU)).mono fun x V' hx => ?_
  rw [← hO1, loadC_true] at hx
  exact hx
 obtain ⟨⟨p0, p1, p2, p3⟩, -⟩ := id (hW ▸ BP)
 obtain ⟨⟨r0, r1, r2, r3⟩, f0, f1, f2, f3⟩ := id (hW ▸ BR)
 cases k with
 | zero =>
  have h9 : (8 : Int) < d := by omega
  replace hO1 : O = none := hO
  clear hn' hp hpn hB' hP hd cL0 hO hrt
  go_enter Tryz.func47, Tryz.ntmps47
  go_wp2
  rw [← hW] at r0 r1 r2 r3 ⊢
  refine bodyPost_ret (v := .tuple #[.agg #[.bool false, .slice none 0 0, .slice none 0 0, .slice none 0 0], .int .i64 81]) (by simp [results, Tryz.results47, go_sem, r0, r1, r2, r3]) rfl ?_
  rw [hO1]
  exact visitC_none WB (Only5.of_below OV)
 | succ k =>
  have h9 : ¬ (8 : Int) < d := by omega
  have hrk : rt = decide (k = 7) := by rw [← hrt]; by_cases e : k = 7 <;> simp [e, hd] <;> omega
  have hO2 : O = seenO O1 low high lv d := by
   have hd8 : d = (8 : Int) - (k : Int) := by omega
   rw [hO, hO1, hrk, hd8]
   exact visitS_seen _ _ _ _ _ _
  clear hn' hp hpn hB' hP hd hO hO1 hrk hk
  cases O1 with
  | none =>
   replace hO1 : O = none := hO2
   obtain ⟨⟨nl, nk, nv, nc⟩, hN⟩ : ∃ x : NodeS, x = (false, [], [], []) := ⟨_, rfl⟩
   have cL : ∀ U, Below w.heap.size w U → WoodBox U h (.slice a n c) (.slice a' n' c') (.slice b p f) (.int .i64 root) (.int .i64 gen) → Calls Tryz.prog 63 #[.pointer (some ⟨h, 0, none⟩), .int .i64 block, .bool rt] U fun x V' => Answers U x V' nl nk nv nc 81 := fun U hU hb => by have := cL0 U hU hb; cases hN; exact this
   clear cL0 hO2 hN
   go_enter Tryz.func47, Tryz.ntmps47
   go_wp2_with (
    (go_at_call 63; rw [← hW]; refine (cL _ HB WB.1).mono ?_; rintro y w1 ⟨k1, a1, d1, k2, a2, d2, k3, a3, d3, rfl, e1, e2, e3, i1, i2, i3, j1, j2, j3, hb⟩; have hA : Below w1.heap.size w1 (w1.alloc (.cells #[.bool nl, .slice a1 k1 d1, .slice a2 k2 d2, .slice a3 k3 d3] 76)) := (Below.refl _ _).alloc (Nat.le_refl _) _; have BN := box4_new w1 (.bool nl) (.slice a1 k1 d1) (.slice a2 k2 d2) (.slice a3 k3 d3) 76 rfl; have hlo : V.heap.size + 1 + 1 ≤ W.heap.size := (by rw [hW]; simp); replace HB := Below.tr (Below.tr HB hb) hA; replace OV := Below.tr (Below.tr OV hb) hA; replace BP := (BP.below hb).below hA; replace BR := (BR.below hb).below hA; replace WB := (WB.below hb).below hA; clear r0 r1 r2 r3 f0 f1 f2 f3 p0 p1 p2 p3; obtain ⟨⟨p0, p1, p2, p3⟩, -⟩ := id BP; obtain ⟨⟨r0, r1, r2, r3⟩, f0, f1, f2, f3⟩ := id BR; obtain ⟨⟨n0, n1, n2, n3⟩, -⟩ := id BN; have E : Hid (k1 = nk.length ∧ k2 = nv.length ∧ k3 = nc.length) := ⟨e1, e2, e3⟩; have I : Hid (IsS (w1.alloc (.cells #[.bool nl, .slice a1 k1 d1, .slice a2 k2 d2, .slice a3 k3 d3] 76)) a1 d1 nk ∧ IsS (w1.alloc (.cells #[.bool nl, .slice a1 k1 d1, .slice a2 k2 d2, .slice a3 k3 d3] 76)) a2 d2 nv ∧ IsI (w1.alloc (.cells #[.bool nl, .slice a1 k1 d1, .slice a2 k2 d2, .slice a3 k3 d3] 76)) a3 d3 nc) := ⟨i1.below hA, i2.below hA, i3.below hA⟩; have J : Hid (From (V.heap.size + 1 + 1) a1 ∧ From (V.heap.size + 1 + 1) a2 ∧ From (V.heap.size + 1 + 1) a3) := ⟨j1.mono hlo, j2.mono hlo, j3.mono hlo⟩; have hN : V.heap.size + 1 + 1 ≤ w1.heap.size := (Nat.le_trans hlo hb.size); clear hb hA hlo e1 e2 e3 i1 i2 i3 j1 j2 j3))
   refine bodyPost_ret (v := .tuple #[.agg #[.bool false, .slice none 0 0, .slice none 0 0, .slice none 0 0], .int .i64 81]) (by simp [results, Tryz.results47, go_sem, r0, r1, r2, r3]) rfl ?_
   rw [hO1]
   exact visitC_none (WB.put (by omega) _ _ _ _) ((Only5.of_below OV).put hlt (by omega) _ _ _ _)
  | some nd =>
   obtain ⟨nl, nk, nv, nc⟩ := nd
   have cL : ∀ U, Below w.heap.size w U → WoodBox U h (.slice a n c) (.slice a' n' c') (.slice b p f) (.int .i64 root) (.int .i64 gen) → Calls Tryz.prog 63 #[.pointer (some ⟨h, 0, none⟩), .int .i64 block, .bool rt] U fun x V' => Answers U x V' nl nk nv nc 0 := cL0
   have cI0 : ∀ U a1 k1 d1, k1 = nk.length → IsS U a1 d1 nk → Calls Tryz.prog 64 #[.agg #[.int .i64 block, .int .i64 d, .string low, .string high], .slice a1 k1 d1] U fun e w' => e = .returned (.bool (withinK nk low high)) ∧ Below U.heap.size U w' := fun U a1 k1 d1 h1 h2 => placeWithin_any block d low high a1 k1 d1 nk U h1 h2
   replace hO2 : O = if withinK nk low high = true ∧ (nl = true → lv = 0 ∨ lv = d) then some (nl, nk, nv, nc) else none := hO2
   clear cL0
   cases hwi : withinK nk low high with
   | false =>
    have cI : ∀ U a1 k1 d1, k1 = nk.length → IsS U a1 d1 nk → Calls Tryz.prog 64 #[.agg #[.int .i64 block, .int .i64 d, .string low, .string high], .slice a1 k1 d1] U fun e w' => e = .returned (.bool false) ∧ Below U.heap.size U w' := fun U a1 k1 d1 h1 h2 => by have := cI0 U a1 k1 d1 h1 h2; rw [hwi] at this; exact this
    have hO1 : O = none := by rw [hO2, if_neg (fun h => by rw [hwi] at h; exact absurd h.1 (by decide))]
    clear cI0 hwi hO2
    go_enter Tryz.func47, Tryz.ntmps47
    go_wp2_with (first
     | (go_at_call 63; rw [← hW]; refine (cL _ HB WB.1).mono ?_; rintro y w1 ⟨k1, a1, d1, k2, a2, d2, k3, a3, d3, rfl, e1, e2, e3, i1, i2, i3, j1, j2, j3, hb⟩; have hA : Below w1.heap.size w1 (w1.alloc (.cells #[.bool nl, .slice a1 k1 d1, .slice a2 k2 d2, .slice a3 k3 d3] 76)) := (Below.refl _ _).alloc (Nat.le_refl _) _; have BN := box4_new w1 (.bool nl) (.slice a1 k1 d1) (.slice a2 k2 d2) (.slice a3 k3 d3) 76 rfl; have hlo : V.heap.size + 1 + 1 ≤ W.heap.size := (by rw [hW]; simp); replace HB := Below.tr (Below.tr HB hb) hA; replace OV := Below.tr (Below.tr OV hb) hA; replace BP := (BP.below hb).below hA; replace BR := (BR.below hb).below hA; replace WB := (WB.below hb).below hA; clear r0 r1 r2 r3 f0 f1 f2 f3 p0 p1 p2 p3; obtain ⟨⟨p0, p1, p2, p3⟩, -⟩ := id BP; obtain ⟨⟨r0, r1, r2, r3⟩, f0, f1, f2, f3⟩ := id BR; obtain ⟨⟨n0, n1, n2, n3⟩, -⟩ := id BN; have E : Hid (k1 = nk.length ∧ k2 = nv.length ∧ k3 = nc.length) := ⟨e1, e2, e3⟩; have I : Hid (IsS (w1.alloc (.cells #[.bool nl, .slice a1 k1 d1, .slice a2 k2 d2, .slice a3 k3 d3] 76)) a1 d1 nk ∧ IsS (w1.alloc (.cells #[.bool nl, .slice a1 k1 d1, .slice a2 k2 d2, .slice a3 k3 d3] 76)) a2 d2 nv ∧ IsI (w1.alloc (.cells #[.bool nl, .slice a1 k1 d1, .slice a2 k2 d2, .slice a3 k3 d3] 76)) a3 d3 nc) := ⟨i1.below hA, i2.below hA, i3.below hA⟩; have J : Hid (From (V.heap.size + 1 + 1) a1 ∧ From (V.heap.size + 1 + 1) a2 ∧ From (V.heap.size + 1 + 1) a3) := ⟨j1.mono hlo, j2.mono hlo, j3.mono hlo⟩; have hN : V.heap.size + 1 + 1 ≤ w1.heap.size := (Nat.le_trans hlo hb.size); clear hb hA hlo e1 e2 e3 i1 i2 i3 j1 j2 j3)
     | (go_at_call 64; refine (cI _ a1 k1 d1 E.out.1 I.out.1).mono ?_; rintro y w2 ⟨rfl, hb⟩; replace HB := Below.tr HB hb; replace OV := Below.tr OV hb; replace BP := BP.below hb; replace BR := BR.below hb; replace BN := BN.below hb; replace WB := WB.below hb; clear r0 r1 r2 r3 f0 f1 f2 f3 p0 p1 p2 p3 n0 n1 n2 n3; obtain ⟨⟨p0, p1, p2, p3⟩, -⟩ := id BP; obtain ⟨⟨r0, r1, r2, r3⟩, f0, f1, f2, f3⟩ := id BR; obtain ⟨⟨n0, n1, n2, n3⟩, -⟩ := id BN; replace I : Hid (IsS w2 a1 d1 nk ∧ IsS w2 a2 d2 nv ∧ IsI w2 a3 d3 nc) := ⟨I.out.1.below hb, I.out.2.1.below hb, I.out.2.2.below hb⟩; clear hb))
    refine bodyPost_ret (v := .tuple #[.agg #[.bool false, .slice none 0 0, .slice none 0 0, .slice none 0 0], .int .i64 81]) (by simp [results, Tryz.results47, go_sem, r0, r1, r2, r3]) rfl ?_
    rw [hO1]
    exact visitC_none (WB.put (by omega) _ _ _ _) ((Only5.of_below OV).put hlt (by omega) _ _ _ _)
   | true =>
    have cI : ∀ U a1 k1 d1, k1 = nk.length → IsS U a1 d1 nk → Calls Tryz.prog 64 #[.agg #[.int .i64 block, .int .i64 d, .string low, .string high], .slice a1 k1 d1] U fun e w' => e = .returned (.bool true) ∧ Below U.heap.size U w' := fun U a1 k1 d1 h1 h2 => by have := cI0 U a1 k1 d1 h1 h2; rw [hwi] at this; exact this
    cases nl with
    | false =>
     have hO1 : O = some (false, nk, nv, nc) := by rw [hO2, if_pos ⟨hwi, fun e => by cases e⟩]
     clear cI0 hwi hO2
     go_enter Tryz.func47, Tryz.ntmps47
     go_wp2_with (first
      | (go_at_call 63; rw [← hW]; refine (cL _ HB WB.1).mono ?_; rintro y w1 ⟨k1, a1, d1, k2, a2, d2, k3, a3, d3, rfl, e1, e2, e3, i1, i2, i3, j1, j2, j3, hb⟩; have hA : Below w1.heap.size w1 (w1.alloc (.cells #[.bool false, .slice a1 k1 d1, .slice a2 k2 d2, .slice a3 k3 d3] 76)) := (Below.refl _ _).alloc (Nat.le_refl _) _; have BN := box4_new w1 (.bool false) (.slice a1 k1 d1) (.slice a2 k2 d2) (.slice a3 k3 d3) 76 rfl; have hlo : V.heap.size + 1 + 1 ≤ W.heap.size := (by rw [hW]; simp); replace HB := Below.tr (Below.tr HB hb) hA; replace OV := Below.tr (Below.tr OV hb) hA; replace BP := (BP.below hb).below hA; replace BR := (BR.below hb).below hA; replace WB := (WB.below hb).below hA; clear r0 r1 r2 r3 f0 f1 f2 f3 p0 p1 p2 p3; obtain ⟨⟨p0, p1, p2, p3⟩, -⟩ := id BP; obtain ⟨⟨r0, r1, r2, r3⟩, f0, f1, f2, f3⟩ := id BR; obtain ⟨⟨n0, n1, n2, n3⟩, -⟩ := id BN; have E : Hid (k1 = nk.length ∧ k2 = nv.length ∧ k3 = nc.length) := ⟨e1, e2, e3⟩; have I : Hid (IsS (w1.alloc (.cells #[.bool false, .slice a1 k1 d1, .slice a2 k2 d2, .slice a3 k3 d3] 76)) a1 d1 nk ∧ IsS (w1.alloc (.cells #[.bool false, .slice a1 k1 d1, .slice a2 k2 d2, .slice a3 k3 d3] 76)) a2 d2 nv ∧ IsI (w1.alloc (.cells #[.bool false, .slice a1 k1 d1, .slice a2 k2 d2, .slice a3 k3 d3] 76)) a3 d3 nc) := ⟨i1.below hA, i2.below hA, i3.below hA⟩; have J : Hid (From (V.heap.size + 1 + 1) a1 ∧ From (V.heap.size + 1 + 1) a2 ∧ From (V.heap.size + 1 + 1) a3) := ⟨j1.mono hlo, j2.mono hlo, j3.mono hlo⟩; have hN : V.heap.size + 1 + 1 ≤ w1.heap.size := (Nat.le_trans hlo hb.size); clear hb hA hlo e1 e2 e3 i1 i2 i3 j1 j2 j3)
      | (go_at_call 64; refine (cI _ a1 k1 d1 E.out.1 I.out.1).mono ?_; rintro y w2 ⟨rfl, hb⟩; replace HB := Below.tr HB hb; replace OV := Below.tr OV hb; replace BP := BP.below hb; replace BR := BR.below hb; replace BN := BN.below hb; replace WB := WB.below hb; clear r0 r1 r2 r3 f0 f1 f2 f3 p0 p1 p2 p3 n0 n1 n2 n3; obtain ⟨⟨p0, p1, p2, p3⟩, -⟩ := id BP; obtain ⟨⟨r0, r1, r2, r3⟩, f0, f1, f2, f3⟩ := id BR; obtain ⟨⟨n0, n1, n2, n3⟩, -⟩ := id BN; replace I : Hid (IsS w2 a1 d1 nk ∧ IsS w2 a2 d2 nv ∧ IsI w2 a3 d3 nc) := ⟨I.out.1.below hb, I.out.2.1.below hb, I.out.2.2.below hb⟩; clear hb))
     have T4 := turns_put4 w2 (V.heap.size + 1) (.bool false) (.slice a1 k1 d1) (.slice a2 k2 d2) (.slice a3 k3 d3)
     obtain ⟨j1, j2, j3⟩ := J.out
     refine bodyPost_ret (v := .tuple #[.agg #[.bool false, .slice a1 k1 d1, .slice a2 k2 d2, .slice a3 k3 d3], .int .i64 0]) (by simp [results, Tryz.results47, go_sem, r0, r1, r2, r3]) rfl ?_
     rw [hO1]
     refine ⟨k1, a1, d1, k2, a2, d2, k3, a3, d3, rfl, E.out.1, E.out.2.1, E.out.2.2, I.out.1.turns T4 (fun x hx e => by have := j1 x hx; omega), I.out.2.1.turns T4 (fun x hx e => by have := j2 x hx; omega), I.out.2.2.turns T4 (fun x hx e => by have := j3 x hx; omega), j1.mono (by omega), j2.mono (by omega), j3.mono (by omega), WB.put (by omega) _ _ _ _, (Only5.of_below OV).put hlt (by omega) _ _ _ _⟩
    | true =>
     by_cases hlv : lv = 0 ∨ lv = d
     ·
      have hO1 : O = some (true, nk, nv, nc) := by rw [hO2, if_pos ⟨hwi, fun _ => hlv⟩]
      have hlv' : decide (lv = 0 ∨ lv = d) = true := decide_eq_true hlv
      have cV : ∀ U, WalkBox U h (.slice a n c) (.slice a' n' c') (.slice b p f) (.int .i64 root) (.int .i64 gen) lv → Calls Tryz.prog 65 #[.pointer (some ⟨h, 0, none⟩), .int .i64 d] U fun e w' => e = .returned (.bool true) ∧ levelW U h lv d = w' := fun U hU => by have := level_any U h _ _ _ _ _ lv d hU; rw [hlv'] at this; exact this
      have hll : (if lv = 0 then d else lv) = d := by rcases hlv with e | e <;> simp [e]
      have HL : Hid ((if lv = 0 then d else lv) = d) := hll
      clear cI0 hwi hO2 hlv hlv' hll
      go_enter Tryz.func47, Tryz.ntmps47
      go_wp2_with (first
       | (go_at_call 63; rw [← hW]; refine (cL _ HB WB.1).mono ?_; rintro y w1 ⟨k1, a1, d1, k2, a2, d2, k3, a3, d3, rfl, e1, e2, e3, i1, i2, i3, j1, j2, j3, hb⟩; have hA : Below w1.heap.size w1 (w1.alloc (.cells #[.bool true, .slice a1 k1 d1, .slice a2 k2 d2, .slice a3 k3 d3] 76)) := (Below.refl _ _).alloc (Nat.le_refl _) _; have BN := box4_new w1 (.bool true) (.slice a1 k1 d1) (.slice a2 k2 d2) (.slice a3 k3 d3) 76 rfl; have hlo : V.heap.size + 1 + 1 ≤ W.heap.size := (by rw [hW]; simp); replace HB := Below.tr (Below.tr HB hb) hA; replace OV := Below.tr (Below.tr OV hb) hA; replace BP := (BP.below hb).below hA; replace BR := (BR.below hb).below hA; replace WB := (WB.below hb).below hA; clear r0 r1 r2 r3 f0 f1 f2 f3 p0 p1 p2 p3; obtain ⟨⟨p0, p1, p2, p3⟩, -⟩ := id BP; obtain ⟨⟨r0, r1, r2, r3⟩, f0, f1, f2, f3⟩ := id BR; obtain ⟨⟨n0, n1, n2, n3⟩, -⟩ := id BN; have E : Hid (k1 = nk.length ∧ k2 = nv.length ∧ k3 = nc.length) := ⟨e1, e2, e3⟩; have I : Hid (IsS (w1.alloc (.cells #[.bool true, .slice a1 k1 d1, .slice a2 k2 d2, .slice a3 k3 d3] 76)) a1 d1 nk ∧ IsS (w1.alloc (.cells #[.bool true, .slice a1 k1 d1, .slice a2 k2 d2, .slice a3 k3 d3] 76)) a2 d2 nv ∧ IsI (w1.alloc (.cells #[.bool true, .slice a1 k1 d1, .slice a2 k2 d2, .slice a3 k3 d3] 76)) a3 d3 nc) := ⟨i1.below hA, i2.below hA, i3.below hA⟩; have J : Hid (From (V.heap.size + 1 + 1) a1 ∧ From (V.heap.size + 1 + 1) a2 ∧ From (V.heap.size + 1 + 1) a3) := ⟨j1.mono hlo, j2.mono hlo, j3.mono hlo⟩; have hN : V.heap.size + 1 + 1 ≤ w1.heap.size := (Nat.le_trans hlo hb.size); clear hb hA hlo e1 e2 e3 i1 i2 i3 j1 j2 j3)
       | (go_at_call 64; refine (cI _ a1 k1 d1 E.out.1 I.out.1).mono ?_; rintro y w2 ⟨rfl, hb⟩; replace HB := Below.tr HB hb; replace OV := Below.tr OV hb; replace BP := BP.below hb; replace BR := BR.below hb; replace BN := BN.below hb; replace WB := WB.below hb; clear r0 r1 r2 r3 f0 f1 f2 f3 p0 p1 p2 p3 n0 n1 n2 n3; obtain ⟨⟨p0, p1, p2, p3⟩, -⟩ := id BP; obtain ⟨⟨r0, r1, r2, r3⟩, f0, f1, f2, f3⟩ := id BR; obtain ⟨⟨n0, n1, n2, n3⟩, -⟩ := id BN; replace I : Hid (IsS w2 a1 d1 nk ∧ IsS w2 a2 d2 nv ∧ IsI w2 a3 d3 nc) := ⟨I.out.1.below hb, I.out.2.1.below hb, I.out.2.2.below hb⟩; clear hb)
       | (go_at_call 65; refine (cV _ WB).mono ?_; rintro y w3 ⟨rfl, hw3⟩; have T : Only5 h w2 w3 := (by rw [← hw3]; exact only5_level _ _ _); replace WB : WalkBox w3 h (.slice a n c) (.slice a' n' c') (.slice b p f) (.int .i64 root) (.int .i64 gen) (if lv = 0 then d else lv) := (by rw [← hw3]; exact WB.level d); replace BR := BR.turns T.t (by omega); replace BN := BN.turns T.t (by omega); clear r0 r1 r2 r3 f0 f1 f2 f3 p0 p1 p2 p3 n0 n1 n2 n3 hw3; obtain ⟨⟨r0, r1, r2, r3⟩, f0, f1, f2, f3⟩ := id BR; obtain ⟨⟨n0, n1, n2, n3⟩, -⟩ := id BN; replace I : Hid (IsS w3 a1 d1 nk ∧ IsS w3 a2 d2 nv ∧ IsI w3 a3 d3 nc) := ⟨I.out.1.turns T.t (fun x hx e => by have := J.out.1 x hx; omega), I.out.2.1.turns T.t (fun x hx e => by have := J.out.2.1 x hx; omega), I.out.2.2.turns T.t (fun x hx e => by have := J.out.2.2 x hx; omega)⟩))
      have T4 := turns_put4 w3 (V.heap.size + 1) (.bool true) (.slice a1 k1 d1) (.slice a2 k2 d2) (.slice a3 k3 d3)
      obtain ⟨j1, j2, j3⟩ := J.out
      rw [HL.out] at WB
      have OT := (Only5.of_below OV).low T (fun i v hc => ⟨v, cell_below OV hc⟩)
      refine bodyPost_ret (v := .tuple #[.agg #[.bool true, .slice a1 k1 d1, .slice a2 k2 d2, .slice a3 k3 d3], .int .i64 0]) (by simp [results, Tryz.results47, go_sem, r0, r1, r2, r3]) rfl ?_
      rw [hO1]
      refine ⟨k1, a1, d1, k2, a2, d2, k3, a3, d3, rfl, E.out.1, E.out.2.1, E.out.2.2, I.out.1.turns T4 (fun x hx e => by have := j1 x hx; omega), I.out.2.1.turns T4 (fun x hx e => by have := j2 x hx; omega), I.out.2.2.turns T4 (fun x hx e => by have := j3 x hx; omega), j1.mono (by omega), j2.mono (by omega), j3.mono (by omega), WB.put (by omega) _ _ _ _, OT.put hlt (by omega) _ _ _ _⟩
     ·
      have hO1 : O = none := by rw [hO2, if_neg (fun e => hlv (e.2 rfl))]
      have hlv' : decide (lv = 0 ∨ lv = d) = false := decide_eq_false hlv
      have cV : ∀ U, WalkBox U h (.slice a n c) (.slice a' n' c') (.slice b p f) (.int .i64 root) (.int .i64 gen) lv → Calls Tryz.prog 65 #[.pointer (some ⟨h, 0, none⟩), .int .i64 d] U fun e w' => e = .returned (.bool false) ∧ levelW U h lv d = w' := fun U hU => by have := level_any U h _ _ _ _ _ lv d hU; rw [hlv'] at this; exact this
      have HL : Hid ((if lv = 0 then d else lv) = lv) := if_neg (fun e => hlv (.inl e))
      clear cI0 hwi hO2 hlv hlv'
      go_enter Tryz.func47, Tryz.ntmps47
      go_wp2_with (first
       | (go_at_call 63; rw [← hW]; refine (cL _ HB WB.1).mono ?_; rintro y w1 ⟨k1, a1, d1, k2, a2, d2, k3, a3, d3, rfl, e1, e2, e3, i1, i2, i3, j1, j2, j3, hb⟩; have hA : Below w1.heap.size w1 (w1.alloc (.cells #[.bool true, .slice a1 k1 d1, .slice a2 k2 d2, .slice a3 k3 d3] 76)) := (Below.refl _ _).alloc (Nat.le_refl _) _; have BN := box4_new w1 (.bool true) (.slice a1 k1 d1) (.slice a2 k2 d2) (.slice a3 k3 d3) 76 rfl; have hlo : V.heap.size + 1 + 1 ≤ W.heap.size := (by rw [hW]; simp); replace HB := Below.tr (Below.tr HB hb) hA; replace OV := Below.tr (Below.tr OV hb) hA; replace BP := (BP.below hb).below hA; replace BR := (BR.below hb).below hA; replace WB := (WB.below hb).below hA; clear r0 r1 r2 r3 f0 f1 f2 f3 p0 p1 p2 p3; obtain ⟨⟨p0, p1, p2, p3⟩, -⟩ := id BP; obtain ⟨⟨r0, r1, r2, r3⟩, f0, f1, f2, f3⟩ := id BR; obtain ⟨⟨n0, n1, n2, n3⟩, -⟩ := id BN; have E : Hid (k1 = nk.length ∧ k2 = nv.length ∧ k3 = nc.length) := ⟨e1, e2, e3⟩; have I : Hid (IsS (w1.alloc (.cells #[.bool true, .slice a1 k1 d1, .slice a2 k2 d2, .slice a3 k3 d3] 76)) a1 d1 nk ∧ IsS (w1.alloc (.cells #[.bool true, .slice a1 k1 d1, .slice a2 k2 d2, .slice a3 k3 d3] 76)) a2 d2 nv ∧ IsI (w1.alloc (.cells #[.bool true, .slice a1 k1 d1, .slice a2 k2 d2, .slice a3 k3 d3] 76)) a3 d3 nc) := ⟨i1.below hA, i2.below hA, i3.below hA⟩; have J : Hid (From (V.heap.size + 1 + 1) a1 ∧ From (V.heap.size + 1 + 1) a2 ∧ From (V.heap.size + 1 + 1) a3) := ⟨j1.mono hlo, j2.mono hlo, j3.mono hlo⟩; have hN : V.heap.size + 1 + 1 ≤ w1.heap.size := (Nat.le_trans hlo hb.size); clear hb hA hlo e1 e2 e3 i1 i2 i3 j1 j2 j3)
       | (go_at_call 64; refine (cI _ a1 k1 d1 E.out.1 I.out.1).mono ?_; rintro y w2 ⟨rfl, hb⟩; replace HB := Below.tr HB hb; replace OV := Below.tr OV hb; replace BP := BP.below hb; replace BR := BR.below hb; replace BN := BN.below hb; replace WB := WB.below hb; clear r0 r1 r2 r3 f0 f1 f2 f3 p0 p1 p2 p3 n0 n1 n2 n3; obtain ⟨⟨p0, p1, p2, p3⟩, -⟩ := id BP; obtain ⟨⟨r0, r1, r2, r3⟩, f0, f1, f2, f3⟩ := id BR; obtain ⟨⟨n0, n1, n2, n3⟩, -⟩ := id BN; replace I : Hid (IsS w2 a1 d1 nk ∧ IsS w2 a2 d2 nv ∧ IsI w2 a3 d3 nc) := ⟨I.out.1.below hb, I.out.2.1.below hb, I.out.2.2.below hb⟩; clear hb)
       | (go_at_call 65; refine (cV _ WB).mono ?_; rintro y w3 ⟨rfl, hw3⟩; have T : Only5 h w2 w3 := (by rw [← hw3]; exact only5_level _ _ _); replace WB : WalkBox w3 h (.slice a n c) (.slice a' n' c') (.slice b p f) (.int .i64 root) (.int .i64 gen) (if lv = 0 then d else lv) := (by rw [← hw3]; exact WB.level d); replace BR := BR.turns T.t (by omega); replace BN := BN.turns T.t (by omega); clear r0 r1 r2 r3 f0 f1 f2 f3 p0 p1 p2 p3 n0 n1 n2 n3 hw3; obtain ⟨⟨r0, r1, r2, r3⟩, f0, f1, f2, f3⟩ := id BR; obtain ⟨⟨n0, n1, n2, n3⟩, -⟩ := id BN; replace I : Hid (IsS w3 a1 d1 nk ∧ IsS w3 a2 d2 nv ∧ IsI w3 a3 d3 nc) := ⟨I.out.1.turns T.t (fun x hx e => by have := J.out.1 x hx; omega), I.out.2.1.turns T.t (fun x hx e => by have := J.out.2.1 x hx; omega), I.out.2.2.turns T.t (fun x hx e => by have := J.out.2.2 x hx; omega)⟩))
      rw [HL.out] at WB
      have OT := (Only5.of_below OV).low T (fun i v hc => ⟨v, cell_below OV hc⟩)
      refine bodyPost_ret (v := .tuple #[.agg #[.bool false, .slice none 0 0, .slice none 0 0, .slice none 0 0], .int .i64 81]) (by simp [results, Tryz.results47, go_sem, r0, r1, r2, r3]) rfl ?_
      rw [hO1]
      exact visitC_none (WB.put (by omega) _ _ _ _) (OT.put hlt (by omega) _ _ _ _)
end Go.Proofs.YtaecfbfcjaailaaGreat
namespace Go.Proofs.YtaecfbfcjaailaaGreat
open Go.RowKit Plain Anylast
set_option linter.unusedVariables false
set_option maxRecDepth 20000 in
set_option maxHeartbeats 2000000 in
theorem refLikeP_any (a a' : Option Addr) (c c' n n' : Nat) (ps qs : List (ByteArray × ByteArray)) (w : World) (hn : n = ps.length) (hn' : n' = qs.length) (hQ : IsQ w a c ps) (hQ' : IsQ w a' c' qs) :
  Calls Tryz.prog 18 #[.slice a n c, .slice a' n' c'] w fun e w' => e = .returned (.bool (decide (ps = qs))) ∧ Below w.heap.size w w' := by
 have mn : n ≤ 9223372036854775807 := by rw [hn]; exact Nat.le_trans hQ.1 hQ.2.1
 have mn' : n' ≤ 9223372036854775807 := by rw [hn']; exact Nat.le_trans hQ'.1 hQ'.2.1
 by_cases hl : n = n'
 ·
  subst hl
  have EN : Hid (n = ps.length) := hn
  have EN' : Hid (n = qs.length) := hn'
  have RQ : Hid (IsQ w a c ps) := hQ
  have RQ' : Hid (IsQ w a' c' qs) := hQ'
  clear hn hn' hQ hQ'
  go_enter Tryz.func18, Tryz.ntmps18
  go_wp2
  go_loopw [13] (fun v wr => ∃ j : Nat, j ≤ n ∧ v = .int .i64 j ∧ (∀ i, i < j → ps[i]? = qs[i]?) ∧ Below w.heap.size w wr) (fun v _ => n - (intOf v).toNat)
  case atStart => exact ⟨0, by omega, rfl, fun i hi => by omega, Below.refl _ _⟩
  case round =>
   obtain ⟨j, hj, rfl, hs, HB⟩ := hrel
   have HS : Hid (∀ i, i < j → ps[i]? = qs[i]?) := hs
   clear hs
   by_cases hlt : j < n
   ·
    have hlt' : (j : Int) < n := by omega
    obtain ⟨⟨k, v⟩, hp⟩ : ∃ x, Hid (ps[j]? = some x) := get_some (by rw [← EN.out]; exact hlt)
    obtain ⟨⟨k', v'⟩, hq⟩ : ∃ x, Hid (qs[j]? = some x) := get_some (by rw [← EN'.out]; exact hlt)
    obtain ⟨b, o, rfl, -, hc0, hc1, -, -⟩ := RQ.out.2.2 j (k, v) hp.out
    obtain ⟨b', o', rfl, -, hd0, hd1, -, -⟩ := RQ'.out.2.2 j (k', v') hq.out
    have z0 := cell_below HB hc0
    have z1 := cell_below HB hc1
    have y0 := cell_below HB hd0
    have y1 := cell_below HB hd1
    clear hc0 hc1 hd0 hd1
    by_cases e : k = k' ∧ v = v'
    ·
     obtain ⟨rfl, rfl⟩ := e
     go_wp2
     go_region
     go_wp2
     go_roundw
     case rel =>
      refine ⟨j + 1, by omega, by go_num, fun i hi => ?_, HB.drew⟩
      by_cases ei : i = j
      ·
       rw [ei, hp.out, hq.out]
      ·
       exact HS.out i (by omega)
     case measure => simp [intOf]; omega
    ·
     have hne : Hid (decide (ps = qs) = false) := by
      show _ = _
      rw [decide_eq_false_iff_not]
      rintro rfl
      have := hp.out
      rw [hq.out] at this
      have h2 := Option.some.inj this
      exact e ⟨(congrArg Prod.fst h2).symm, (congrArg Prod.snd h2).symm⟩
     by_cases ek : k = k'
     ·
      subst ek
      have e1 : ¬ v.toList = v'.toList := fun h => e ⟨rfl, str_beq.1 (by rw [h]; simp)⟩
      go_wp2
      go_region
      go_wp2
      go_ret
      exact ⟨ret_bool hne.out.symm, HB.drew⟩
     ·
      have e1 : ¬ k.toList = k'.toList := fun h => ek (str_beq.1 (by rw [h]; simp))
      go_wp2
      go_region
      go_wp2
      go_ret
      exact ⟨ret_bool hne.out.symm, HB.drew⟩
   ·
    obtain rfl : n = j := by omega
    have hj0 : ¬ (n : Int) < n := by omega
    have heq : Hid (decide (ps = qs) = true) := by
     show _ = _
     rw [decide_eq_true_eq]
     apply List.ext_getElem?
     intro i
     by_cases hi : i < n
     ·
      exact HS.out i hi
     ·
      rw [List.getElem?_eq_none (by rw [← EN.out]; omega), List.getElem?_eq_none (by rw [← EN'.out]; omega)]
    go_wp2
    go_ret
    exact ⟨ret_bool heq.out.symm, HB⟩
 ·
  have hne : decide (ps = qs) = false := by
   rw [decide_eq_false_iff_not]
   rintro rfl
   exact hl (by rw [hn, hn'])
  have h1 : ((n : Int) != n') = true := by simp; omega
  rw [hne]
  clear hn hn' hQ hQ' hne
  go_enter Tryz.func18, Tryz.ntmps18
  go_wp2
  go_ret
  exact ⟨rfl, Below.refl _ _⟩
end Go.Proofs.YtaecfbfcjaailaaGreat
namespace Go.Proofs.YtaecfbfcjaailaaGreat
open Go.RowKit Plain
set_option linter.unusedVariables false
theorem tree_sized {ns : List Bool} {ps : List ByteArray} {root gen : Int} : ∀ q ∈ (treeS ns ps root gen).pairs, q.1.size ≤ maxLen ∧ q.2.size ≤ maxLen := by
 unfold treeS
 split
 ·
  intro q hq; simp [TreeS.none] at hq
 ·
  refine pairs_all (P := fun q => q.1.size ≤ maxLen ∧ q.2.size ≤ maxLen) (fun b r n hn hl q hq => ?_) 8 TreeS.none root ⟨#[]⟩ ⟨#[]⟩ (fun q hq => by simp [TreeS.none] at hq)
  have hs := (rightN_iff.1 (holds_right hn)).1
  obtain ⟨_, hk, _, hv, _, _⟩ := standsN_iff.1 hs
  have h1 := (hk _ (List.of_mem_zip hq).1).2
  have h2 := hv _ (List.of_mem_zip hq).2
  exact ⟨Nat.le_trans h1 (by decide), Nat.le_trans h2 (by decide)⟩
end Go.Proofs.YtaecfbfcjaailaaGreat
namespace Go.Proofs.YtaecfbfcjaailaaGreat
open Go.RowKit Plain Anylast
set_option linter.unusedVariables false
set_option maxRecDepth 20000 in
set_option maxHeartbeats 1000000 in
theorem value_any (a a' a'' : Option Addr) (c c' c'' n n' n'' : Nat) (ks vs : List ByteArray) (cs : List Int) (key : ByteArray) (w : World) (hn : n = ks.length) (hn' : n' = vs.length) (hn'' : n'' = cs.length) (hK : IsS w a c ks) (hV : IsS w a' c' vs) (hC : IsI w a'' c'' cs) (hst : standsN true ks vs cs = true) :
  Calls Tryz.prog 48 #[.agg #[.bool true, .slice a n c, .slice a' n' c', .slice a'' n'' c''], .string key] w fun e w' => e = .returned (.tuple #[.string (getP (ks.zip vs) key).1, .int .i64 (getP (ks.zip vs) key).2]) ∧ Below w.heap.size w w' := by
 obtain ⟨W, hW⟩ : ∃ W, W = w.alloc (.cells #[.bool true, .slice a n c, .slice a' n' c', .slice a'' n'' c''] 76) := ⟨_, rfl⟩
 have HB : Below w.heap.size w W := by rw [hW]; exact (Below.refl _ _).alloc (Nat.le_refl _) _
 have BN : Box4 W w.heap.size (.bool true) (.slice a n c) (.slice a' n' c') (.slice a'' n'' c'') := by rw [hW]; exact box4_new _ _ _ _ _ _ rfl
 have cF := nodeFind_any true a a' a'' c c' c'' n n' n'' ks vs cs key W hn hn' hn'' (hK.below HB) (hV.below HB) (hC.below HB)
 have e1 : findR true ks vs cs key = (findN key ks : Nat) := by unfold findR; rw [if_pos hst]
 have e2 : findI true ks vs cs key = isN ks key := by unfold findI; rw [hst]; rfl
 rw [e1, e2] at cF
 obtain ⟨_, _, hr, _, _, hsh⟩ := standsN_iff.1 hst
 have hlen : vs.length = ks.length := (shape_leaf.1 hsh).1
 have hg := leaf_get hr hlen key
 obtain ⟨⟨v, e⟩, hve⟩ : ∃ x, x = getP (ks.zip vs) key := ⟨_, rfl⟩
 rw [← hve] at hg ⊢
 have mn' : n' ≤ 9223372036854775807 := by rw [hn']; exact Nat.le_trans hV.1 hV.2.1
 obtain ⟨⟨x0, x1, x2, x3⟩, -⟩ := id (hW ▸ BN)
 obtain ⟨i, hi⟩ : ∃ i, i = findN key ks := ⟨_, rfl⟩
 rw [← hi] at cF hg
 cases his : isN ks key with
 | false =>
  rw [his] at cF hg
  rw [if_neg (by decide)] at hg
  obtain ⟨rfl, rfl⟩ := Prod.mk.inj hg
  clear hn hn' hn'' hK hV hC hst hr hsh hlen hve e1 e2 hi his hg
  go_enter Tryz.func48, Tryz.ntmps48
  go_wp2_with (go_at_call 66; rw [← hW]; refine cF.mono ?_; rintro y w1 ⟨rfl, hb⟩; replace HB := Below.tr HB hb; clear x0 x1 x2 x3)
  go_ret2
  exact ⟨rfl, HB⟩
 | true =>
  have hik := (List.getElem?_eq_some_iff.1 (isN_iff.1 his)).1
  rw [his] at cF hg
  rw [if_pos rfl] at hg
  obtain ⟨u, hu⟩ : ∃ u, vs[i]? = some u := ⟨_, List.getElem?_eq_getElem (by omega)⟩
  rw [getD_some hu] at hg
  obtain ⟨rfl, rfl⟩ := Prod.mk.inj hg
  obtain ⟨b, o, rfl, -, hc, -⟩ := hV.2.2 i v hu
  have z := cell_below HB hc
  have hi' : (i : Int) < n' := by omega
  clear hn hn' hn'' hK hV hC hst hr hsh hlen hve e1 e2 hi his hg hik hu hc
  go_enter Tryz.func48, Tryz.ntmps48
  go_wp2_with (go_at_call 66; rw [← hW]; refine cF.mono ?_; rintro y w1 ⟨rfl, hb⟩; replace HB := Below.tr HB hb; replace BN := BN.below hb; replace z := cell_below hb z; clear x0 x1 x2 x3; obtain ⟨⟨x0, x1, x2, x3⟩, -⟩ := id BN)
  go_ret2
  exact ⟨rfl, HB⟩
def depthLeft (g : Nat) (V : World) : Nat := match V.cell? ⟨g, 1, none⟩ with
 | some v => (9 - intOf v).toNat
 | none => 0
theorem depthLeft_at {g : Nat} {V : World} {d : Int} (h : V.cell? ⟨g, 1, none⟩ = some (.int .i64 d)) : depthLeft g V = (9 - d).toNat := by unfold depthLeft; rw [h]; rfl
def downV (block d : Int) (low high : ByteArray) (a1 : Option Addr) (k1 d1 : Nat) (a2 : Option Addr) (k2 d2 : Nat) (a3 : Option Addr) (k3 d3 : Nat) (key : ByteArray) (i : Nat) (block' d' : Int) (low' high' : ByteArray) : Nat → Value
 | 0 => .agg #[.int .i64 block, .int .i64 d, .string low, .string high]
 | 1 => .agg #[.bool false, .slice a1 k1 d1, .slice a2 k2 d2, .slice a3 k3 d3]
 | 2 => .agg #[.bool false, .slice a1 k1 d1, .slice a2 k2 d2, .slice a3 k3 d3]
 | 3 => .string key
 | 4 => .int .i64 i
 | 5 => .agg #[.int .i64 block', .int .i64 d', .string low', .string high']
 | _ => undef
set_option maxRecDepth 20000 in
set_option maxHeartbeats 4000000 in
theorem find_any (w V : World) (h : Nat) (a a' b : Option Addr) (n c n' c' p f : Nat) (ns : List Bool) (ps : List ByteArray) (root gen : Int) (key : ByteArray) (hn' : n' = ns.length) (hp : p = ps.length) (hpn : p = n') (hV : Below w.heap.size w V) (hwh : w.heap.size ≤ h) (hB' : IsB w a' c' ns) (hP : IsS w b f ps)
  (WB : WalkBox V h (.slice a n c) (.slice a' n' c') (.slice b p f) (.int .i64 root) (.int .i64 gen) 0) :
  Calls Tryz.prog 31 #[.pointer (some ⟨h, 0, none⟩), .string key] V fun x V' => x = .returned (.tuple #[.string (findS (holdsS ns ps gen) key 8 root ⟨#[]⟩ ⟨#[]⟩).1, .int .i64 (findS (holdsS ns ps gen) key 8 root ⟨#[]⟩ ⟨#[]⟩).2]) ∧ Below w.heap.size w V' := by
 have hlt : h < V.heap.size := cell_lt WB.2.1
 have cT := top_any V h _ _ _ _ root WB.1
 have cV : ∀ U block d low high (k : Nat), Below w.heap.size w U → k ≤ 8 → d = 9 - (k : Int) → WalkBox U h (.slice a n c) (.slice a' n' c') (.slice b p f) (.int .i64 root) (.int .i64 gen) 0 → Calls Tryz.prog 47 #[.pointer (some ⟨h, 0, none⟩), .agg #[.int .i64 block, .int .i64 d, .string low, .string high]] U fun x V' => VisitC U h (.slice a n c) (.slice a' n' c') (.slice b p f) (.int .i64 root) (.int .i64 gen) x V' (levelO (visitS (holdsS ns ps gen) 0 k block low high) 0 d) (nodeO (visitS (holdsS ns ps gen) 0 k block low high)) (errO (visitS (holdsS ns ps gen) 0 k block low high)) := fun U block d low high k hU hk hd hW => visit_any w U h a a' b n c n' c' p f ns ps root gen block d low high k 0 hn' hp hpn hU hB' hP hk hd hW
 have stands : ∀ k block low high nd, visitS (holdsS ns ps gen) 0 (k + 1) block low high = some nd → standsN nd.1 nd.2.1 nd.2.2.1 nd.2.2.2 = true := fun k block low high nd hh => (rightN_iff.1 (holds_right (visitS_some hh).1)).1
 have HS : Hid (∀ k block low high nd, visitS (holdsS ns ps gen) 0 (k + 1) block low high = some nd → standsN nd.1 nd.2.1 nd.2.2.1 nd.2.2.2 = true) := stands
 obtain ⟨H, hH⟩ : ∃ H, H = holdsS ns ps gen := ⟨_, rfl⟩
 rw [← hH] at cV HS ⊢
 obtain ⟨⟨v, e⟩, hve⟩ : ∃ x, x = findS H key 8 root ⟨#[]⟩ ⟨#[]⟩ := ⟨_, rfl⟩
 rw [← hve]
 have VE : Hid ((v, e) = findS H key 8 root ⟨#[]⟩ ⟨#[]⟩) := hve
 clear hve hH stands hB' hP hn' hp hpn
 have HB : Below w.heap.size w V := hV
 clear hV
 go_enter Tryz.func31, Tryz.ntmps31
 go_wp2_with (go_at_call 46; refine cT.mono ?_; rintro y w1 ⟨rfl, hb⟩; have hA : Below w1.heap.size w1 (w1.alloc (.cells #[.int .i64 root, .int .i64 1, .string ⟨#[]⟩, .string ⟨#[]⟩] 89)) := (Below.refl _ _).alloc (Nat.le_refl _) _; have BP := box4_new w1 (.int .i64 root) (.int .i64 1) (.string ⟨#[]⟩) (.string ⟨#[]⟩) 89 rfl; replace WB := (WB.below hb).below hA; replace HB := Below.tr (Below.tr HB hb) hA; have hgh : h < w1.heap.size := (Nat.lt_of_lt_of_le hlt hb.size); clear hb hA)
 go_loopw [] (fun wr => ∃ (k : Nat) (block : Int) (low high : ByteArray), k ≤ 8 ∧ (v, e) = findS H key k block low high ∧ Box4 wr w1.heap.size (.int .i64 block) (.int .i64 (9 - (k : Int))) (.string low) (.string high) ∧ WalkBox wr h (.slice a n c) (.slice a' n' c') (.slice b p f) (.int .i64 root) (.int .i64 gen) 0 ∧ Below w.heap.size w wr) (fun wr => depthLeft w1.heap.size wr)
 case atStart => exact ⟨8, root, ⟨#[]⟩, ⟨#[]⟩, Nat.le_refl _, VE.out, BP, WB, HB⟩
 case round =>
  obtain ⟨k, block, low, high, hk, hve, BP, WB, HB⟩ := hrel
  have VE2 : Hid ((v, e) = findS H key k block low high) := hve
  clear hve VE
  have hg1 : Hid (w1.heap.size < wr.heap.size) := BP.lt
  obtain ⟨d, hd⟩ : ∃ d, d = 9 - (k : Int) := ⟨_, rfl⟩
  rw [← hd] at BP
  have HD : Hid (d = 9 - (k : Int)) := hd
  have HK : Hid (k ≤ 8) := hk
  have hm0 : Hid (depthLeft w1.heap.size wr = k) := by show _ = _; rw [depthLeft_at BP.1.2.1, hd]; omega
  obtain ⟨O, hO⟩ : ∃ O, O = visitS H 0 k block low high := ⟨_, rfl⟩
  have cv0 := fun U hU hW => cV U block d low high k hU hk hd hW
  rw [← hO] at cv0
  obtain ⟨⟨p0, p1, p2, p3⟩, -⟩ := id BP
  clear cV hd hk
  cases O with
  | none =>
   have hf : (v, e) = (⟨#[]⟩, 81) := by
    rw [VE2.out]
    cases k with
    | zero => rfl
    | succ k => rw [findS, ← hO]
   obtain ⟨rfl, rfl⟩ := Prod.mk.inj hf
   obtain ⟨⟨ks, vs, cs⟩, hks⟩ : ∃ x : List ByteArray × List ByteArray × List Int, x = ([], [], []) := ⟨_, rfl⟩
   have cv : ∀ U, Below w.heap.size w U → WalkBox U h (.slice a n c) (.slice a' n' c') (.slice b p f) (.int .i64 root) (.int .i64 gen) 0 → Calls Tryz.prog 47 #[.pointer (some ⟨h, 0, none⟩), .agg #[.int .i64 block, .int .i64 d, .string low, .string high]] U fun x V' => VisitC U h (.slice a n c) (.slice a' n' c') (.slice b p f) (.int .i64 root) (.int .i64 gen) x V' 0 (false, ks, vs, cs) 81 := fun U hU hW => by have := cv0 U hU hW; rw [hks]; exact this
   clear cv0 hf hO VE2 hks HD HK
   go_wp2_with (go_at_call 47; refine (cv _ HB WB).mono ?_; rintro y w2 ⟨k1, a1, d1, k2, a2, d2, k3, a3, d3, rfl, e1, e2, e3, i1, i2, i3, j1, j2, j3, WB2, O5⟩; have hA : Below w2.heap.size w2 (w2.alloc (.cells #[.bool false, .slice a1 k1 d1, .slice a2 k2 d2, .slice a3 k3 d3] 76)) := (Below.refl _ _).alloc (Nat.le_refl _) _; have BN := box4_new w2 (.bool false) (.slice a1 k1 d1) (.slice a2 k2 d2) (.slice a3 k3 d3) 76 rfl; replace HB := Below.tr (Below.turns HB O5.t (fun i hi => by omega)) hA; replace BP := (BP.turns O5.t (by omega)).below hA; replace WB := WB2.below hA; clear p0 p1 p2 p3; obtain ⟨⟨p0, p1, p2, p3⟩, pf0, pf1, pf2, pf3⟩ := id BP; obtain ⟨⟨n0, n1, n2, n3⟩, -⟩ := id BN; have E : Hid (k1 = ks.length ∧ k2 = vs.length ∧ k3 = cs.length) := ⟨e1, e2, e3⟩; have I : Hid (IsS (w2.alloc (.cells #[.bool false, .slice a1 k1 d1, .slice a2 k2 d2, .slice a3 k3 d3] 76)) a1 d1 ks ∧ IsS (w2.alloc (.cells #[.bool false, .slice a1 k1 d1, .slice a2 k2 d2, .slice a3 k3 d3] 76)) a2 d2 vs ∧ IsI (w2.alloc (.cells #[.bool false, .slice a1 k1 d1, .slice a2 k2 d2, .slice a3 k3 d3] 76)) a3 d3 cs) := ⟨i1.below hA, i2.below hA, i3.below hA⟩; have hgw : w1.heap.size < w2.heap.size := (by have := BP.lt; simp at this; have h2 := O5.t.size; have h3 := hg1.out; omega); clear WB2 O5 hA e1 e2 e3 i1 i2 i3 j1 j2 j3)
   go_ret2
   exact ⟨rfl, HB⟩
  | some nd =>
   obtain ⟨l, ks, vs, cs⟩ := nd
   cases k with
   | zero => cases hO
   | succ k =>
    have hst : standsN l ks vs cs = true := HS.out _ _ _ _ _ hO.symm
    have VE3 : (v, e) = if l = true then getP (ks.zip vs) key else findS H key k (cs.getD (kidN ks key) 0) (kidFrom low ks (kidN ks key)) (kidTo high ks (kidN ks key)) := by rw [VE2.out, findS, ← hO]
    clear VE2 hO
    cases l with
    | true =>
     replace VE3 : (v, e) = getP (ks.zip vs) key := VE3
     have cv : ∀ U, Below w.heap.size w U → WalkBox U h (.slice a n c) (.slice a' n' c') (.slice b p f) (.int .i64 root) (.int .i64 gen) 0 → Calls Tryz.prog 47 #[.pointer (some ⟨h, 0, none⟩), .agg #[.int .i64 block, .int .i64 d, .string low, .string high]] U fun x V' => VisitC U h (.slice a n c) (.slice a' n' c') (.slice b p f) (.int .i64 root) (.int .i64 gen) x V' d (true, ks, vs, cs) 0 := cv0
     have cX : ∀ U a1 d1 k1 a2 d2 k2 a3 d3 k3, k1 = ks.length → k2 = vs.length → k3 = cs.length → IsS U a1 d1 ks → IsS U a2 d2 vs → IsI U a3 d3 cs → Calls Tryz.prog 48 #[.agg #[.bool true, .slice a1 k1 d1, .slice a2 k2 d2, .slice a3 k3 d3], .string key] U fun x w' => x = .returned (.tuple #[.string v, .int .i64 e]) ∧ Below U.heap.size U w' := fun U a1 d1 k1 a2 d2 k2 a3 d3 k3 h1 h2 h3 i1 i2 i3 => by have := value_any a1 a2 a3 d1 d2 d3 k1 k2 k3 ks vs cs key U h1 h2 h3 i1 i2 i3 hst; rw [← VE3] at this; exact this
     clear cv0 VE3 hst HD HK
     go_wp2_with (first
      | (go_at_call 47; refine (cv _ HB WB).mono ?_; rintro y w2 ⟨k1, a1, d1, k2, a2, d2, k3, a3, d3, rfl, e1, e2, e3, i1, i2, i3, j1, j2, j3, WB2, O5⟩; have hA : Below w2.heap.size w2 (w2.alloc (.cells #[.bool true, .slice a1 k1 d1, .slice a2 k2 d2, .slice a3 k3 d3] 76)) := (Below.refl _ _).alloc (Nat.le_refl _) _; have BN := box4_new w2 (.bool true) (.slice a1 k1 d1) (.slice a2 k2 d2) (.slice a3 k3 d3) 76 rfl; replace HB := Below.tr (Below.turns HB O5.t (fun i hi => by omega)) hA; replace BP := (BP.turns O5.t (by omega)).below hA; replace WB := WB2.below hA; clear p0 p1 p2 p3; obtain ⟨⟨p0, p1, p2, p3⟩, pf0, pf1, pf2, pf3⟩ := id BP; obtain ⟨⟨n0, n1, n2, n3⟩, -⟩ := id BN; have E : Hid (k1 = ks.length ∧ k2 = vs.length ∧ k3 = cs.length) := ⟨e1, e2, e3⟩; have I : Hid (IsS (w2.alloc (.cells #[.bool true, .slice a1 k1 d1, .slice a2 k2 d2, .slice a3 k3 d3] 76)) a1 d1 ks ∧ IsS (w2.alloc (.cells #[.bool true, .slice a1 k1 d1, .slice a2 k2 d2, .slice a3 k3 d3] 76)) a2 d2 vs ∧ IsI (w2.alloc (.cells #[.bool true, .slice a1 k1 d1, .slice a2 k2 d2, .slice a3 k3 d3] 76)) a3 d3 cs) := ⟨i1.below hA, i2.below hA, i3.below hA⟩; have hgw : w1.heap.size < w2.heap.size := (by have := BP.lt; simp at this; have h2 := O5.t.size; have h3 := hg1.out; omega); clear WB2 O5 hA e1 e2 e3 i1 i2 i3 j1 j2 j3)
      | (go_at_call 48; refine (cX _ a1 d1 k1 a2 d2 k2 a3 d3 k3 E.out.1 E.out.2.1 E.out.2.2 I.out.1 I.out.2.1 I.out.2.2).mono ?_; rintro y w3 ⟨rfl, hb⟩; replace HB := Below.tr HB hb))
     go_ret2
     exact ⟨rfl, HB⟩
    | false =>
     replace VE3 : (v, e) = findS H key k (cs.getD (kidN ks key) 0) (kidFrom low ks (kidN ks key)) (kidTo high ks (kidN ks key)) := VE3
     have cv : ∀ U, Below w.heap.size w U → WalkBox U h (.slice a n c) (.slice a' n' c') (.slice b p f) (.int .i64 root) (.int .i64 gen) 0 → Calls Tryz.prog 47 #[.pointer (some ⟨h, 0, none⟩), .agg #[.int .i64 block, .int .i64 d, .string low, .string high]] U fun x V' => VisitC U h (.slice a n c) (.slice a' n' c') (.slice b p f) (.int .i64 root) (.int .i64 gen) x V' 0 (false, ks, vs, cs) 0 := cv0
     obtain ⟨i, hi⟩ : ∃ i, i = kidN ks key := ⟨_, rfl⟩
     have hsh := shape_inner.1 (standsN_iff.1 hst).2.2.2.2.2
     have hik : i < cs.length := by have := kidN_le ks key; omega
     obtain ⟨kb, hkb⟩ : ∃ x, cs[i]? = some x := ⟨_, List.getElem?_eq_getElem hik⟩
     have hkr : kidR false ks vs cs key = (i : Nat) := by unfold kidR; rw [if_pos ⟨hst, rfl⟩, hi]
     rw [← hi, getD_some hkb] at VE3
     have hd' : d + 1 = 9 - (k : Int) := by have := HD.out; omega
     have hdr : 0 ≤ d ∧ d ≤ 100 := by have := HD.out; have := HK.out; omega
     have cK : ∀ U a1 d1 k1 a2 d2 k2 a3 d3 k3, k1 = ks.length → k2 = vs.length → k3 = cs.length → IsS U a1 d1 ks → IsS U a2 d2 vs → IsI U a3 d3 cs → Calls Tryz.prog 50 #[.agg #[.bool false, .slice a1 k1 d1, .slice a2 k2 d2, .slice a3 k3 d3], .string key] U fun x w' => x = .returned (.int .i64 i) ∧ Below U.heap.size U w' := fun U a1 d1 k1 a2 d2 k2 a3 d3 k3 h1 h2 h3 i1 i2 i3 => by have := nodeKid_any false a1 a2 a3 d1 d2 d3 k1 k2 k3 ks vs cs key U h1 h2 h3 i1 i2 i3; rw [hkr] at this; exact this
     obtain ⟨x, hx⟩ : ∃ x, x = kidFrom low ks i := ⟨_, rfl⟩
     obtain ⟨z, hz⟩ : ∃ z, z = kidTo high ks i := ⟨_, rfl⟩
     have cD : ∀ U a1 d1 k1 a2 d2 k2 a3 d3 k3, k1 = ks.length → k3 = cs.length → IsS U a1 d1 ks → IsI U a3 d3 cs → Calls Tryz.prog 49 #[.agg #[.int .i64 block, .int .i64 d, .string low, .string high], .agg #[.bool false, .slice a1 k1 d1, .slice a2 k2 d2, .slice a3 k3 d3], .int .i64 i] U fun x' w' => x' = .returned (.agg #[.int .i64 kb, .int .i64 (9 - (k : Int)), .string x, .string z]) ∧ Below U.heap.size U w' := fun U a1 d1 k1 a2 d2 k2 a3 d3 k3 h1 h3 i1 i3 => by have := placeBelow_any block d low high false a1 a2 a3 k1 d1 k2 d2 k3 d3 ks vs cs i kb U h1 h3 i1 i3 hkb (by omega) hdr; rw [hd', ← hx, ← hz] at this; exact this
     rw [← hx, ← hz] at VE3
     have VE4 : Hid ((v, e) = findS H key k kb x z) := VE3
     clear cv0 VE3 hst hi hsh hik hkb hkr hd' hdr hx hz
     go_wp2_with (go_at_call 47; refine (cv _ HB WB).mono ?_; rintro y w2 ⟨k1, a1, d1, k2, a2, d2, k3, a3, d3, rfl, e1, e2, e3, i1, i2, i3, j1, j2, j3, WB2, O5⟩; have hA : Below w2.heap.size w2 (w2.alloc (.cells #[.bool false, .slice a1 k1 d1, .slice a2 k2 d2, .slice a3 k3 d3] 76)) := (Below.refl _ _).alloc (Nat.le_refl _) _; have BN := box4_new w2 (.bool false) (.slice a1 k1 d1) (.slice a2 k2 d2) (.slice a3 k3 d3) 76 rfl; replace HB := Below.tr (Below.turns HB O5.t (fun i hi => by omega)) hA; replace BP := (BP.turns O5.t (by omega)).below hA; replace WB := WB2.below hA; clear p0 p1 p2 p3; obtain ⟨⟨p0, p1, p2, p3⟩, pf0, pf1, pf2, pf3⟩ := id BP; obtain ⟨⟨n0, n1, n2, n3⟩, -⟩ := id BN; have E : Hid (k1 = ks.length ∧ k2 = vs.length ∧ k3 = cs.length) := ⟨e1, e2, e3⟩; have I : Hid (IsS (w2.alloc (.cells #[.bool false, .slice a1 k1 d1, .slice a2 k2 d2, .slice a3 k3 d3] 76)) a1 d1 ks ∧ IsS (w2.alloc (.cells #[.bool false, .slice a1 k1 d1, .slice a2 k2 d2, .slice a3 k3 d3] 76)) a2 d2 vs ∧ IsI (w2.alloc (.cells #[.bool false, .slice a1 k1 d1, .slice a2 k2 d2, .slice a3 k3 d3] 76)) a3 d3 cs) := ⟨i1.below hA, i2.below hA, i3.below hA⟩; have hgw : w1.heap.size < w2.heap.size := (by have := BP.lt; simp at this; have h2 := O5.t.size; have h3 := hg1.out; omega); clear WB2 O5 hA e1 e2 e3 i1 i2 i3 j1 j2 j3)
     have hU := (Below.refl (w2.alloc (.cells #[.bool false, .slice a1 k1 d1, .slice a2 k2 d2, .slice a3 k3 d3] 76)).heap.size (w2.alloc (.cells #[.bool false, .slice a1 k1 d1, .slice a2 k2 d2, .slice a3 k3 d3] 76))).drew
     refine region_vals (by kernel_rfl) 6 (downV block d low high a1 k1 d1 a2 k2 d2 a3 k3 d3 key i kb (9 - (k : Int)) x z)
      (fun X => Box4 X w1.heap.size (.int .i64 block) (.int .i64 d) (.string low) (.string high) ∧ Box4 X w2.heap.size (.bool false) (.slice a1 k1 d1) (.slice a2 k2 d2) (.slice a3 k3 d3) ∧ (IsS X a1 d1 ks ∧ IsS X a2 d2 vs ∧ IsI X a3 d3 cs) ∧ WalkBox X h (.slice a n c) (.slice a' n' c') (.slice b p f) (.int .i64 root) (.int .i64 gen) 0 ∧ Below w.heap.size w X)
      (fun X => Box4 X w1.heap.size (.int .i64 kb) (.int .i64 (9 - (k : Int))) (.string x) (.string z) ∧ WalkBox X h (.slice a n c) (.slice a' n' c') (.slice b p f) (.int .i64 root) (.int .i64 gen) 0 ∧ Below w.heap.size w X) (by kernel_rfl) (by kernel_rfl) ⟨BP.below hU, BN.below hU, ⟨I.out.1.below hU, I.out.2.1.below hU, I.out.2.2.below hU⟩, WB.below hU, Below.tr HB hU⟩ ?step 7 rfl ?done
     case step =>
      clear p0 p1 p2 p3 pf0 pf1 pf2 pf3 n0 n1 n2 n3 hU BP BN I WB HB
      intro j oo ho a9 X hS hdf hsz hdep hsame
      obtain ⟨BP, BN, I, WB, HB⟩ := id hS
      obtain ⟨⟨p0, p1, p2, p3⟩, pf0, pf1, pf2, pf3⟩ := id BP
      obtain ⟨⟨n0, n1, n2, n3⟩, -⟩ := id BN
      match j, ho with
      | 0, ho =>
       cases ho
       have h6 := hsame 6 rfl
       exact val_op rfl (wanted_free rfl) (by clear hdep hsame hsz hdf; simp only [downV]; go_simp) rfl hS
      | 1, ho =>
       cases ho
       have h7 := hsame 7 rfl
       exact val_op rfl (wanted_free rfl) (by clear hdep hsame hsz hdf; simp only [downV]; go_simp) rfl hS
      | 2, ho =>
       cases ho
       have h7 := hsame 7 rfl
       exact val_op rfl (wanted_free rfl) (by clear hdep hsame hsz hdf; simp only [downV]; go_simp) rfl hS
      | 3, ho =>
       cases ho
       have h1 := hsame 1 rfl
       exact val_op rfl (wanted_free rfl) (by clear hdep hsame hsz hdf; simp only [downV]; go_simp) rfl hS
      | 4, ho =>
       cases ho
       have h29 := hdep 2 _ 29 rfl rfl rfl
       have h30 := hdep 3 _ 30 rfl rfl rfl
       simp only [downV] at h29 h30
       exact val_call rfl (wanted_free rfl) (by clear hdep hsame hsz hdf; go_simp) ((cK _ a1 d1 k1 a2 d2 k2 a3 d3 k3 E.out.1 E.out.2.1 E.out.2.2 I.1 I.2.1 I.2.2).mono fun e w'' ⟨he, hb⟩ => ⟨he, BP.below hb, BN.below hb, ⟨I.1.below hb, I.2.1.below hb, I.2.2.below hb⟩, WB.below hb, Below.tr HB hb⟩)
      | 5, ho =>
       cases ho
       have h27 := hdep 0 _ 27 rfl rfl rfl
       have h28 := hdep 1 _ 28 rfl rfl rfl
       have h31 := hdep 4 _ 31 rfl rfl rfl
       simp only [downV] at h27 h28 h31
       exact val_call rfl (wanted_free rfl) (by clear hdep hsame hsz hdf; go_simp) ((cD _ a1 d1 k1 a2 d2 k2 a3 d3 k3 E.out.1 E.out.2.2 I.1 I.2.2).mono fun e w'' ⟨he, hb⟩ => ⟨he, BP.below hb, BN.below hb, ⟨I.1.below hb, I.2.1.below hb, I.2.2.below hb⟩, WB.below hb, Below.tr HB hb⟩)
      | 6, ho =>
       cases ho
       have h6 := hsame 6 rfl
       have h32 := hdep 5 _ 32 rfl rfl rfl
       simp only [downV] at h32
       exact val_skip (w' := (((X.setCell ⟨w1.heap.size, 0, none⟩ (.int .i64 kb)).setCell ⟨w1.heap.size, 1, none⟩ (.int .i64 (9 - (k : Int)))).setCell ⟨w1.heap.size, 2, none⟩ (.string x)).setCell ⟨w1.heap.size, 3, none⟩ (.string z)) rfl (wanted_free rfl) rfl (by clear hdep hsame hsz hdf; go_simp) ⟨BP.put _ _ _ _, WB.put (by omega) _ _ _ _, below_put4 HB (by omega) _ _ _ _⟩
      | n + 7, ho => simp at ho
     case done =>
      rintro X ⟨BP2, WB2, HB2⟩
      simp [filledN, downV]
      go_wp2
      go_roundw
      case rel => exact ⟨k, kb, x, z, by have := HK.out; omega, VE4.out, BP2, WB2, HB2⟩
      case measure => rw [depthLeft_at BP2.1.2.1, hm0.out]; omega
def getW (G : WoodS) (key : ByteArray) : ByteArray × Int := if 1 ≤ key.size ∧ key.size ≤ 32 then (if G.root = 0 then (⟨#[]⟩, 80) else findS G.holds key 8 G.root ⟨#[]⟩ ⟨#[]⟩) else (⟨#[]⟩, 1)
set_option maxRecDepth 20000 in
set_option maxHeartbeats 4000000 in
theorem lookGet_is (a a' b : Option Addr) (c c' f : Nat) (G : WoodS) (key : ByteArray) (w : World) (hB : IsB w a c G.base) (hB' : IsB w a' c' G.now) (hP : IsS w b f G.pages) (hkey : key.size ≤ maxLen) (hr : G.right = true) :
  Calls Tryz.prog 20 #[.agg #[.slice a G.base.length c, .slice a' G.now.length c', .slice b G.pages.length f, .int .i64 G.root, .int .i64 G.gen], .string key] w fun x w' => x = .returned (.tuple #[.string (getW G key).1, .int .i64 (getW G key).2]) ∧ Below w.heap.size w w' := by
 obtain ⟨bs, ns, ps, root, gen⟩ := G
 simp only at *
 obtain ⟨n, hn⟩ : ∃ n, n = bs.length := ⟨_, rfl⟩
 obtain ⟨n', hn'⟩ : ∃ n, n = ns.length := ⟨_, rfl⟩
 obtain ⟨p, hp⟩ : ∃ n, n = ps.length := ⟨_, rfl⟩
 rw [← hn, ← hn', ← hp]
 obtain ⟨W, hW⟩ : ∃ W, W = w.alloc (.cells #[.slice a n c, .slice a' n' c', .slice b p f, .int .i64 root, .int .i64 gen] 27) := ⟨_, rfl⟩
 have HB : Below w.heap.size w W := by rw [hW]; exact (Below.refl _ _).alloc (Nat.le_refl _) _
 have BW : WoodBox W w.heap.size (.slice a n c) (.slice a' n' c') (.slice b p f) (.int .i64 root) (.int .i64 gen) := by rw [hW]; exact woodBox_new _ _ _ _ _ _ _ rfl
 have cR := lookRight_any a a' b n c n' c' p f bs ns ps root gen W hn hn' hp (hB.below HB) (hB'.below HB) (hP.below HB)
 obtain ⟨x0, x1, x2, x3, x4⟩ := id (hW ▸ BW)
 have mk : key.size ≤ 9223372036854775807 := hkey
 have hr' : rightW bs ns ps root gen = true := hr
 rw [hr'] at cR
 by_cases hk0 : key.size = 0
 ·
  have hg : getW ⟨bs, ns, ps, root, gen⟩ key = (⟨#[]⟩, 1) := by unfold getW; rw [if_neg (by omega)]
  rw [hg]
  obtain rfl := str_empty hk0
  clear hn hn' hp hB hB' hP hr hr' hg hk0
  go_enter Tryz.func20, Tryz.ntmps20
  go_wp2_with (
   (go_at_call 30; rw [← hW]; refine cR.mono ?_; rintro y w1 ⟨rfl, hb⟩; replace HB := Below.tr HB hb; replace BW := BW.below hb; clear x0 x1 x2 x3 x4; obtain ⟨x0, x1, x2, x3, x4⟩ := id BW; clear hb))
  go_ret2
  exact ⟨rfl, HB⟩
 ·
  have hke := str_full hk0
  by_cases hk2 : key.size ≤ 32
  ·
   have hk2' : ¬ (32 : Int) < key.size := by omega
   by_cases hroot : root = 0
   ·
    have hroot' : (root == 0) = true := by simpa using hroot
    have hg : getW ⟨bs, ns, ps, root, gen⟩ key = (⟨#[]⟩, 80) := by unfold getW; rw [if_pos (by omega), if_pos hroot]
    rw [hg]
    clear hn hn' hp hB hB' hP hr hr' hg hk0 hroot
    go_enter Tryz.func20, Tryz.ntmps20
    go_wp2_with (
     (go_at_call 30; rw [← hW]; refine cR.mono ?_; rintro y w1 ⟨rfl, hb⟩; replace HB := Below.tr HB hb; replace BW := BW.below hb; clear x0 x1 x2 x3 x4; obtain ⟨x0, x1, x2, x3, x4⟩ := id BW; clear hb))
    go_ret2
    exact ⟨rfl, HB⟩
   ·
    have hroot' : (root == 0) = false := by simpa using hroot
    have hpn : p = n' := by rw [hp, hn']; exact rightW_len hr'
    have hg : getW ⟨bs, ns, ps, root, gen⟩ key = findS (holdsS ns ps gen) key 8 root ⟨#[]⟩ ⟨#[]⟩ := by unfold getW; rw [if_pos (by omega), if_neg hroot]; rfl
    rw [hg]
    have cF : ∀ (h : Nat) U, Below w.heap.size w U → w.heap.size ≤ h → WalkBox U h (.slice a n c) (.slice a' n' c') (.slice b p f) (.int .i64 root) (.int .i64 gen) 0 → Calls Tryz.prog 31 #[.pointer (some ⟨h, 0, none⟩), .string key] U fun x V' => x = .returned (.tuple #[.string (findS (holdsS ns ps gen) key 8 root ⟨#[]⟩ ⟨#[]⟩).1, .int .i64 (findS (holdsS ns ps gen) key 8 root ⟨#[]⟩ ⟨#[]⟩).2]) ∧ Below w.heap.size w V' := fun h U hU hh hb => find_any w U h a a' b n c n' c' p f ns ps root gen key hn' hp hpn hU hh hB' hP hb
    obtain ⟨⟨v, e⟩, hve⟩ : ∃ x, x = findS (holdsS ns ps gen) key 8 root ⟨#[]⟩ ⟨#[]⟩ := ⟨_, rfl⟩
    rw [← hve] at cF ⊢
    clear hn hn' hp hB hB' hP hr hr' hk0 hroot hpn hve hg
    go_enter Tryz.func20, Tryz.ntmps20
    go_wp2_with (first
     | (go_at_call 30; rw [← hW]; refine cR.mono ?_; rintro y w1 ⟨rfl, hb⟩; replace HB := Below.tr HB hb; replace BW := BW.below hb; clear x0 x1 x2 x3 x4; obtain ⟨x0, x1, x2, x3, x4⟩ := id BW; clear hb)
     | (go_at_call 31; have hA : Below w1.heap.size w1 (w1.alloc (.cells #[.slice a n c, .slice a' n' c', .slice b p f, .int .i64 root, .int .i64 gen, .int .i64 0] 67)) := (Below.refl _ _).alloc (Nat.le_refl _) _; have BK := walkBox_new w1 (.slice a n c) (.slice a' n' c') (.slice b p f) (.int .i64 root) (.int .i64 gen) 0 67 rfl; refine (cF _ _ (Below.tr HB hA) HB.size BK).mono ?_; rintro y w2 ⟨rfl, hb⟩; clear x0 x1 x2 x3 x4 HB hA BK BW))
    go_ret2
    exact ⟨rfl, hb⟩
  ·
   have hk2' : (32 : Int) < key.size := by omega
   have hg : getW ⟨bs, ns, ps, root, gen⟩ key = (⟨#[]⟩, 1) := by unfold getW; rw [if_neg (by omega)]
   rw [hg]
   clear hn hn' hp hB hB' hP hr hr' hg hk0
   go_enter Tryz.func20, Tryz.ntmps20
   go_wp2_with (
    (go_at_call 30; rw [← hW]; refine cR.mono ?_; rintro y w1 ⟨rfl, hb⟩; replace HB := Below.tr HB hb; replace BW := BW.below hb; clear x0 x1 x2 x3 x4; obtain ⟨x0, x1, x2, x3, x4⟩ := id BW; clear hb))
   go_ret2
   exact ⟨rfl, HB⟩
end Go.Proofs.YtaecfbfcjaailaaGreat
namespace Go.Proofs.YtaecfbfcjaailaaGreat
open Go.RowKit Plain
set_option linter.unusedVariables false
theorem down_facts {H : Int → Bool → Option NodeS} {key : ByteArray} : ∀ (k : Nat) (b : Int) (r : Bool) (w : List StepS), downG H key k b r = some w → 1 ≤ w.length ∧ w.length ≤ k ∧ (∀ s ∈ w, ∃ r', H s.1 r' = some s.2.1) ∧ (∀ (j : Nat) (s : StepS), j + 1 < w.length → w[j]? = some s → s.2.1.1 = false ∧ s.2.2 = kidN s.2.1.2.1 key) ∧ ∃ s, w[w.length - 1]? = some s ∧ s.2.1 = lastN w ∧ s.2.1.1 = true
 | 0, _, _, _, h => by cases h
 | k + 1, b, r, w, h => by
  cases hn : H b r with
  | none => rw [downG, hn] at h; cases h
  | some n =>
   rw [downG_at hn] at h
   split at h
   ·
    rename_i hl
    cases h
    refine ⟨by simp, by simp, fun s hs => ?_, fun j s hj => by simp at hj, _, rfl, rfl, hl⟩
    simp at hs; subst hs; exact ⟨r, hn⟩
   ·
    rename_i hl
    obtain ⟨x, e, rfl⟩ := Option.map_eq_some_iff.1 h
    obtain ⟨h1, h2, h3, h4, s0, h5, h6, h7⟩ := down_facts k _ _ x e
    have hx : x ≠ [] := fun e => by rw [e] at h1; simp at h1
    refine ⟨by simp, by simp; omega, fun s hs => ?_, fun j s hj hs => ?_, s0, ?_, ?_, h7⟩
    ·
     rcases List.mem_cons.1 hs with rfl | hs
     ·
      exact ⟨r, hn⟩
     ·
      exact h3 s hs
    ·
     cases j with
     | zero => simp at hs; subst hs; exact ⟨by simpa using hl, rfl⟩
     | succ j => exact h4 j s (by simp at hj; omega) (by simpa using hs)
    ·
     rw [List.length_cons, Nat.add_sub_cancel]
     obtain ⟨m, hm⟩ : ∃ m, x.length = m + 1 := ⟨x.length - 1, by omega⟩
     rw [hm, List.getElem?_cons_succ]
     rw [hm, Nat.add_sub_cancel] at h5
     exact h5
    ·
     rw [h6]
     unfold lastN
     cases x with
     | nil => exact absurd rfl hx
     | cons y ys => rw [List.getLast?_cons_cons]
theorem way_cap {w : World} {B g n cap : Nat} {xs : List Value} (h : w.ownsRow B 105 6 (.slice (some ⟨g, 0, none⟩) n cap) n xs) : n ≤ cap ∧ cap ≤ maxLen := by
 rcases h.2 with ⟨e, _⟩ | ⟨g', cap', cur, e, _, _, hnc, hcm, _⟩
 ·
  cases e
 ·
  cases e; exact ⟨hnc, hcm⟩
theorem way_at {w : World} {h q m : Nat} {ms : List MStep} {ss : List StepS} {s : StepS} (r : Reps w h q ms ss) (hs : ss[m]? = some s) : ∃ ml, Hid (ms[m]? = some ml) :=
 ⟨_, List.getElem?_eq_getElem (by rw [r.1]; exact (List.getElem?_eq_some_iff.1 hs).1)⟩
set_option maxRecDepth 20000 in
set_option maxHeartbeats 4000000 in
theorem growPut_any (h q cp : Nat) (a : Option Addr) (c : Nat) (a' : Option Addr) (c' : Nat) (G : WoodS) (key val : ByteArray) (w : World) (GA : GrowAt w h q cp a c a' c' G) (hr : G.right = true) (mk : key.size ≤ maxLen) (mv : val.size ≤ maxLen) :
  Calls Tryz.prog 33 #[.pointer (some ⟨h, 0, none⟩), .agg #[.string key, .string val]] w fun x w' => GrowC w x w' h q cp a a' (putG G key val) := by
 obtain ⟨W, hW⟩ : ∃ W, W = w.alloc (.cells #[.string key, .string val] 50) := ⟨_, rfl⟩
 have BP : Box2 W w.heap.size (.string key) (.string val) := by rw [hW]; exact box2_new _ _ _ _ rfl
 have HB : Below w.heap.size w W := by rw [hW]; exact (Below.refl _ _).alloc (Nat.le_refl _) _
 have hh : h < w.heap.size := GA.lt
 have hqq : q < w.heap.size := GA.pg.lt
 have GAw := GA
 replace GA := GA.below HB
 have mvi : val.size ≤ 9223372036854775807 := mv
 obtain ⟨p0, p1⟩ := (hW ▸ BP).1
 obtain ⟨x0, x1, x2, x3, x4⟩ := id (hW ▸ GA.box)
 obtain ⟨R, hR⟩ : ∃ R, R = putG G key val := ⟨_, rfl⟩
 rw [← hR]
 have cG : ∀ V, Below w.heap.size w V → Calls Tryz.prog 20 #[.agg #[.slice a G.base.length c, .slice a' G.now.length c', .slice (some ⟨q, 0, none⟩) G.pages.length cp, .int .i64 G.root, .int .i64 G.gen], .string key] V fun x w' => x = .returned (.tuple #[.string (getW G key).1, .int .i64 (getW G key).2]) ∧ Below V.heap.size V w' := fun V hV => lookGet_is a a' _ c c' cp G key V (GAw.bs.below hV) (GAw.ns.below hV) (GAw.pg.isS.below hV) mk hr
 by_cases hv : val.size ≤ 200
 ·
  have hv' : ¬ (200 : Int) < val.size := by omega
  by_cases hk : 1 ≤ key.size ∧ key.size ≤ 32
  ·
   have hp : isPairB key val = true := isPairB_iff.2 ⟨hk, hv⟩
   have hR0 : R = if G.root = 0 then plantG G (withPairN [] [] key val) else if (findS G.holds key 8 G.root ⟨#[]⟩ ⟨#[]⟩).2 = 81 then (81, G) else match downG G.holds key 8 G.root true with | none => (81, G) | some way => upG way.length way.reverse G (withPairN (lastN way).2.1 (lastN way).2.2.1 key val) := by rw [hR]; unfold putG; rw [if_pos hp]; rfl
   have hgW : getW G key = if G.root = 0 then (⟨#[]⟩, 80) else findS G.holds key 8 G.root ⟨#[]⟩ ⟨#[]⟩ := by unfold getW; rw [if_pos hk]
   by_cases hroot : G.root = 0
   ·
    rw [if_pos hroot] at hR0 hgW
    rw [hgW] at cG
    have hroot' : (G.root == 0) = true := by simpa using hroot
    rw [withPair_nil] at hR0
    have cP : ∀ V, Calls Tryz.prog 54 #[.agg #[.bool true, .slice none 0 0, .slice none 0 0, .slice none 0 0], .agg #[.string key, .string val]] V fun e w' => ∃ x1 y1 x2 y2, e = .returned (.agg #[.bool true, .slice x1 1 y1, .slice x2 1 y2, .slice none 0 0]) ∧ IsS w' x1 y1 [key] ∧ IsS w' x2 y2 [val] ∧ From V.heap.size x1 ∧ From V.heap.size x2 ∧ Below V.heap.size V w' := fun V => withPair_any none none none 0 0 0 0 0 0 1 1 [] [] [] key val V rfl rfl rfl (isS_nil _) (isS_nil _) (isI_nil _) rfl mk mv rfl rfl
    have cL : ∀ V {z1 : Option Addr} {t1 : Nat} {z2 : Option Addr} {t2 : Nat}, GrowAt V h q cp a c a' c' G → NodeR V h q z1 1 t1 z2 1 t2 none 0 0 [key] [val] [] → Calls Tryz.prog 53 #[.pointer (some ⟨h, 0, none⟩), .agg #[.bool true, .slice z1 1 t1, .slice z2 1 t2, .slice none 0 0]] V fun e w' => ∃ b1 e1 b2 e2, e = .returned (.int .i64 R.1) ∧ GrowAt w' h q cp b1 e1 b2 e2 R.2 ∧ (Newer V a b1 ∧ Newer V a' b2) ∧ Turns (Mine h q) V w' := fun V z1 t1 z2 t2 g n => by
     have := plant_any h q cp a c a' c' G true z1 1 t1 z2 1 t2 none 0 0 [key] [val] [] V g (fun _ => (right_ok.1 hr).1.len) n
     rw [← hR0] at this
     exact this
    obtain ⟨rE, rG⟩ := R
    clear hR hk hgW hR0 hp hroot
    go_enter Tryz.func33, Tryz.ntmps33
    go_wp2
    rw [← hW]
    clear hW x0 x1 x2 x3 x4 p0 p1
    obtain ⟨x0, x1, x2, x3, x4⟩ := id GA.box
    obtain ⟨⟨p0, p1⟩, -⟩ := id BP
    go_region_held3 (fun V => (V.cell? ⟨h, 0, none⟩ = some (.slice a G.base.length c) ∧ V.cell? ⟨h, 1, none⟩ = some (.slice a' G.now.length c') ∧ V.cell? ⟨h, 2, none⟩ = some (.slice (some ⟨q, 0, none⟩) G.pages.length cp) ∧ V.cell? ⟨h, 3, none⟩ = some (.int .i64 G.root) ∧ V.cell? ⟨h, 4, none⟩ = some (.int .i64 G.gen)) ∧ V.cell? ⟨w.heap.size, 0, none⟩ = some (.string key)) (exact ⟨⟨x0, x1, x2, x3, x4⟩, p0⟩) (first
     | (go_at_call 20; refine (cG _ HB.drew).mono ?_; rintro y w1 ⟨rfl, hb⟩; have hbW : Below W.heap.size W w1 := Below.tr (Below.refl W.heap.size W).drew hb; replace HB := Below.tr HB hbW; replace GA := GA.below hbW; replace BP := BP.below hbW; clear x0 x1 x2 x3 x4 p0 p1; obtain ⟨x0, x1, x2, x3, x4⟩ := id GA.box; obtain ⟨⟨p0, p1⟩, -⟩ := id BP; clear hb))
    have hs1 := HB.size
    go_wp2_with (first
     | (go_at_call 54; refine (cP _).mono ?_; rintro y w2 ⟨z1, t1, z2, t2, rfl, i1, i2, f1, f2, hb⟩; have NN : Hid (NodeR w2 h q z1 1 t1 z2 1 t2 none 0 0 [key] [val] []) := ⟨rfl, rfl, rfl, i1, i2, isI_nil _, f1.off2 (by omega) (by omega), f2.off2 (by omega) (by omega), off2_nil _ _⟩; replace GA := GA.below hb; replace HB := Below.tr HB hb; clear i1 i2 f1 f2 hb x0 x1 x2 x3 x4 p0 p1)
     | (go_at_call 53; refine (cL _ GA NN.out).mono ?_; rintro y w3 ⟨b1, e1, b2, e2, rfl, GA4, ⟨v1, v2⟩, T4⟩))
    go_ret
    exact growC_of rfl GA4 (v1.low HB.size) (v2.low HB.size) ((Turns.of_below HB).trans T4)
   ·
    rw [if_neg hroot] at hR0 hgW
    rw [hgW] at cG
    have hroot' : (G.root == 0) = false := by simpa using hroot
    have hends := findS_ends G.holds key 8 G.root ⟨#[]⟩ ⟨#[]⟩
    obtain ⟨⟨gv, ge⟩, hge⟩ : ∃ x, x = findS G.holds key 8 G.root ⟨#[]⟩ ⟨#[]⟩ := ⟨_, rfl⟩
    rw [← hge] at cG hends hR0
    simp only at cG hends hR0
    by_cases h81 : ge = 81
    ·
     rw [if_pos h81] at hR0
     subst hR0 h81
     clear hR hk hgW hp hends hge
     go_enter Tryz.func33, Tryz.ntmps33
     go_wp2
     rw [← hW]
     clear hW x0 x1 x2 x3 x4 p0 p1
     obtain ⟨x0, x1, x2, x3, x4⟩ := id GA.box
     obtain ⟨⟨p0, p1⟩, -⟩ := id BP
     go_region_held3 (fun V => (V.cell? ⟨h, 0, none⟩ = some (.slice a G.base.length c) ∧ V.cell? ⟨h, 1, none⟩ = some (.slice a' G.now.length c') ∧ V.cell? ⟨h, 2, none⟩ = some (.slice (some ⟨q, 0, none⟩) G.pages.length cp) ∧ V.cell? ⟨h, 3, none⟩ = some (.int .i64 G.root) ∧ V.cell? ⟨h, 4, none⟩ = some (.int .i64 G.gen)) ∧ V.cell? ⟨w.heap.size, 0, none⟩ = some (.string key)) (exact ⟨⟨x0, x1, x2, x3, x4⟩, p0⟩) (first
      | (go_at_call 20; refine (cG _ HB.drew).mono ?_; rintro y w1 ⟨rfl, hb⟩; have hbW : Below W.heap.size W w1 := Below.tr (Below.refl W.heap.size W).drew hb; replace HB := Below.tr HB hbW; replace GA := GA.below hbW; replace BP := BP.below hbW; clear x0 x1 x2 x3 x4 p0 p1; obtain ⟨x0, x1, x2, x3, x4⟩ := id GA.box; obtain ⟨⟨p0, p1⟩, -⟩ := id BP; clear hb))
     go_wp2
     go_ret
     exact growC_of rfl GA (newer_refl _ _) (newer_refl _ _) (Turns.of_below HB)
    ·
     rw [if_neg h81] at hR0
     have h080 : ge = 0 ∨ ge = 80 := by
      rcases hends with e | ⟨_, e | e⟩
      ·
       exact .inl e
      ·
       exact .inr e
      ·
       exact absurd e h81
     have cD : ∀ V, GrowAt V h q cp a c a' c' G → Calls Tryz.prog 55 #[.pointer (some ⟨h, 0, none⟩), .string key] V fun x w' => DownC V x w' h q (downG G.holds key 8 G.root true) := fun V g => down_any h q cp a c a' c' G key V g hr mk
     have hok := (right_ok.1 hr).1
     cases hD : downG G.holds key 8 G.root true with
     | none =>
      rw [hD] at hR0 cD
      have hR1 : R = (81, G) := hR0
      subst hR1
      clear hR hk hgW hp hends hge hR0 h81
      rcases h080 with rfl | rfl
      all_goals
       go_enter Tryz.func33, Tryz.ntmps33
       go_wp2
       rw [← hW]
       clear hW x0 x1 x2 x3 x4 p0 p1
       obtain ⟨x0, x1, x2, x3, x4⟩ := id GA.box
       obtain ⟨⟨p0, p1⟩, -⟩ := id BP
       go_region_held3 (fun V => (V.cell? ⟨h, 0, none⟩ = some (.slice a G.base.length c) ∧ V.cell? ⟨h, 1, none⟩ = some (.slice a' G.now.length c') ∧ V.cell? ⟨h, 2, none⟩ = some (.slice (some ⟨q, 0, none⟩) G.pages.length cp) ∧ V.cell? ⟨h, 3, none⟩ = some (.int .i64 G.root) ∧ V.cell? ⟨h, 4, none⟩ = some (.int .i64 G.gen)) ∧ V.cell? ⟨w.heap.size, 0, none⟩ = some (.string key)) (exact ⟨⟨x0, x1, x2, x3, x4⟩, p0⟩) (first
        | (go_at_call 20; refine (cG _ HB.drew).mono ?_; rintro y w1 ⟨rfl, hb⟩; have hbW : Below W.heap.size W w1 := Below.tr (Below.refl W.heap.size W).drew hb; replace HB := Below.tr HB hbW; replace GA := GA.below hbW; replace BP := BP.below hbW; clear x0 x1 x2 x3 x4 p0 p1; obtain ⟨x0, x1, x2, x3, x4⟩ := id GA.box; obtain ⟨⟨p0, p1⟩, -⟩ := id BP; clear hb))
       go_wp2_with (go_at_call 55; refine (cD _ GA).mono ?_; rintro y w2 ⟨rfl, hb⟩; replace GA := GA.below hb; replace HB := Below.tr HB hb)
       go_ret
       exact growC_of rfl GA (newer_refl _ _) (newer_refl _ _) (Turns.of_below HB)
     | some way =>
      rw [hD] at hR0 cD
      have hR1 : R = upG way.length way.reverse G (withPairN (lastN way).2.1 (lastN way).2.2.1 key val) := hR0
      obtain ⟨f1, f2, f3, f4, sl, f5, f6, f7⟩ := down_facts 8 _ _ way hD
      obtain ⟨_, g2, g3, _⟩ := down_way 8 _ _ way hD
      obtain ⟨m, hm⟩ : ∃ m, way.length = m + 1 := ⟨way.length - 1, by omega⟩
      rw [hm, Nat.add_sub_cancel] at f5
      have hst : standsN true sl.2.1.2.1 sl.2.1.2.2.1 sl.2.1.2.2.2 = true := by
       obtain ⟨r', hr'⟩ := f3 sl (List.mem_of_getElem? f5)
       have := (rightN_iff.1 (holds_nodeRight hr')).1
       rw [f7] at this
       exact this
      have hin : ∀ (j : Nat) (s : StepS), j + 1 < way.length → way[j]? = some s → s.2.2 ≤ s.2.1.2.1.length ∧ s.2.2 + 1 ≤ s.2.1.2.2.2.length ∧ s.2.1.2.1.length ≤ 9 ∧ s.2.1.2.2.2.length ≤ 10 := by
       intro j s hj hs
       obtain ⟨e1, e2⟩ := f4 j s hj hs
       obtain ⟨r', hr'⟩ := f3 s (List.mem_of_getElem? hs)
       have hs' := (rightN_iff.1 (holds_nodeRight hr')).1
       rw [e1] at hs'
       obtain ⟨z1, _, _, _, _, z6⟩ := standsN_iff.1 hs'
       obtain ⟨_, _, z7⟩ := shape_inner.1 z6
       have := kidN_le s.2.1.2.1 key
       rw [e2]
       omega
      have hR2 : R = upG (m + 1) way.reverse G (true, (withPairN sl.2.1.2.1 sl.2.1.2.2.1 key val).2.1, (withPairN sl.2.1.2.1 sl.2.1.2.2.1 key val).2.2.1, []) := by rw [hR1, hm, f6]; rfl
      obtain ⟨xk, hxk⟩ : ∃ xk, xk = (withPairN sl.2.1.2.1 sl.2.1.2.2.1 key val).2.1 := ⟨_, rfl⟩
      obtain ⟨xv, hxv⟩ : ∃ xv, xv = (withPairN sl.2.1.2.1 sl.2.1.2.2.1 key val).2.2.1 := ⟨_, rfl⟩
      rw [← hxk, ← hxv] at hR2
      have HX : Hid (way[m]? = some sl ∧ way.length = m + 1 ∧ standsN true sl.2.1.2.1 sl.2.1.2.2.1 sl.2.1.2.2.2 = true ∧ sl.2.1.1 = true) := ⟨f5, hm, hst, f7⟩
      have cP : ∀ V {ml : MStep}, ml.l = true → NodeR V h q ml.a1 ml.k1 ml.d1 ml.a2 ml.k2 ml.d2 ml.a3 ml.k3 ml.d3 sl.2.1.2.1 sl.2.1.2.2.1 sl.2.1.2.2.2 → Calls Tryz.prog 54 #[.agg #[.bool ml.l, .slice ml.a1 ml.k1 ml.d1, .slice ml.a2 ml.k2 ml.d2, .slice ml.a3 ml.k3 ml.d3], .agg #[.string key, .string val]] V fun e w' => ∃ x1 y1 x2 y2, e = .returned (.agg #[.bool true, .slice x1 xk.length y1, .slice x2 xv.length y2, .slice none 0 0]) ∧ IsS w' x1 y1 xk ∧ IsS w' x2 y2 xv ∧ From V.heap.size x1 ∧ From V.heap.size x2 ∧ Below V.heap.size V w' := fun V ml hl n => by
       rw [hl, hxk, hxv]
       exact withPair_any ml.a1 ml.a2 ml.a3 ml.d1 ml.d2 ml.d3 ml.k1 ml.k2 ml.k3 _ _ sl.2.1.2.1 sl.2.1.2.2.1 sl.2.1.2.2.2 key val V n.e1 n.e2 n.e3 n.i1 n.i2 n.i3 hst mk mv rfl rfl
      have cU : ∀ V {g cap : Nat} {ms : List MStep} {z1 : Option Addr} {t1 : Nat} {z2 : Option Addr} {t2 : Nat}, GrowAt V h q cp a c a' c' G → (m + 1 ≤ cap ∧ cap ≤ maxLen) → WayIn V g ms → (g ≠ h ∧ g ≠ q ∧ g < V.heap.size) → Reps V h q ms way → NodeR V h q z1 xk.length t1 z2 xv.length t2 none 0 0 xk xv [] → Calls Tryz.prog 56 #[.pointer (some ⟨h, 0, none⟩), .slice (some ⟨g, 0, none⟩) (m + 1) cap, .agg #[.bool true, .slice z1 xk.length t1, .slice z2 xv.length t2, .slice none 0 0]] V fun x w' => GrowC V x w' h q cp a a' R := fun V g cap ms z1 t1 z2 t2 ga hc wi hg rs n => by
       rw [hR2]
       exact up_any h q cp a c a' c' G g (m + 1) cap ms way true z1 xk.length t1 z2 xv.length t2 none 0 0 xk xv [] V ga hm.symm (by omega) (by omega) hc.1 hc.2 wi hg rs hok g3 g2 hin n
      have hm8 : m ≤ 7 := by omega
      have hwm : IntKind.i64.wrap (m : Int) = (m : Int) := i64_in _ (by omega) (by omega)
      have hmi : (m : Int) < (m : Int) + 1 := by omega
      obtain ⟨rE, rG⟩ := R
      clear hR hk hgW hp hends hge hR0 hR1 hR2 h81 f1 f2 f3 f4 f5 f6 f7 g2 g3 hin hst hm hxk hxv hD hroot
      obtain ⟨nk, hnk⟩ : ∃ nk, nk = xk.length := ⟨_, rfl⟩
      obtain ⟨nv, hnv⟩ : ∃ nv, nv = xv.length := ⟨_, rfl⟩
      rw [← hnk, ← hnv] at cP cU
      have HNK : Hid (nk = xk.length ∧ nv = xv.length) := ⟨hnk, hnv⟩
      clear hnk hnv
      rcases h080 with rfl | rfl
      ·
       go_enter Tryz.func33, Tryz.ntmps33
       go_wp2
       rw [← hW]
       clear hW x0 x1 x2 x3 x4 p0 p1
       obtain ⟨x0, x1, x2, x3, x4⟩ := id GA.box
       obtain ⟨⟨p0, p1⟩, -⟩ := id BP
       go_region_held3 (fun V => (V.cell? ⟨h, 0, none⟩ = some (.slice a G.base.length c) ∧ V.cell? ⟨h, 1, none⟩ = some (.slice a' G.now.length c') ∧ V.cell? ⟨h, 2, none⟩ = some (.slice (some ⟨q, 0, none⟩) G.pages.length cp) ∧ V.cell? ⟨h, 3, none⟩ = some (.int .i64 G.root) ∧ V.cell? ⟨h, 4, none⟩ = some (.int .i64 G.gen)) ∧ V.cell? ⟨w.heap.size, 0, none⟩ = some (.string key)) (exact ⟨⟨x0, x1, x2, x3, x4⟩, p0⟩) (first
        | (go_at_call 20; refine (cG _ HB.drew).mono ?_; rintro y w1 ⟨rfl, hb⟩; have hbW : Below W.heap.size W w1 := Below.tr (Below.refl W.heap.size W).drew hb; replace HB := Below.tr HB hbW; replace GA := GA.below hbW; replace BP := BP.below hbW; clear x0 x1 x2 x3 x4 p0 p1; obtain ⟨x0, x1, x2, x3, x4⟩ := id GA.box; obtain ⟨⟨p0, p1⟩, -⟩ := id BP; clear hb))
       go_wp2_with (first
        | (go_at_call 55; refine (cD _ GA).mono ?_; rintro y w2 ⟨g, cap, n2, ms, rfl, hn2, own2, rs2, hb⟩; have hnm : n2 = m + 1 := hn2.trans HX.out.2.1; subst hnm; have hcap : Hid (m + 1 ≤ cap ∧ cap ≤ maxLen) := way_cap own2; have wi2 := owned_way own2; have hglt := own2.lt g rfl; have hs1 := HB.size; have hWs := BP.lt; obtain ⟨ml, hml⟩ : ∃ ml, Hid (ms[m]? = some ml) := way_at rs2 HX.out.1; obtain ⟨rb0, rb1, rb2, rb3⟩ := rs2.2 m ml sl hml.out HX.out.1; have hmlt : Hid (ml.l = true) := rb1.trans HX.out.2.2.2; obtain ⟨z0, z1, z2, z3, z4, z5⟩ := wi2 m ml hml.out; have hA : Below w2.heap.size w2 (w2.alloc (.cells #[.bool ml.l, .slice ml.a1 ml.k1 ml.d1, .slice ml.a2 ml.k2 ml.d2, .slice ml.a3 ml.k3 ml.d3] 76)) := (Below.refl _ _).alloc (Nat.le_refl _) _; have BL := box4_new w2 (.bool ml.l) (.slice ml.a1 ml.k1 ml.d1) (.slice ml.a2 ml.k2 ml.d2) (.slice ml.a3 ml.k3 ml.d3) 76 rfl; have NL : Hid (NodeR (w2.alloc (.cells #[.bool ml.l, .slice ml.a1 ml.k1 ml.d1, .slice ml.a2 ml.k2 ml.d2, .slice ml.a3 ml.k3 ml.d3] 76)) h q ml.a1 ml.k1 ml.d1 ml.a2 ml.k2 ml.d2 ml.a3 ml.k3 ml.d3 sl.2.1.2.1 sl.2.1.2.2.1 sl.2.1.2.2.2) := rb3.below hA; replace GA := (GA.below hb).below hA; replace HB := Below.tr (Below.tr HB hb) hA; replace BP := (BP.below hb).below hA; have WI : Hid (WayIn (w2.alloc (.cells #[.bool ml.l, .slice ml.a1 ml.k1 ml.d1, .slice ml.a2 ml.k2 ml.d2, .slice ml.a3 ml.k3 ml.d3] 76)) g ms) := wi2.turns (Turns.of_below (P := fun _ => False) hA) id; have RS : Hid (Reps (w2.alloc (.cells #[.bool ml.l, .slice ml.a1 ml.k1 ml.d1, .slice ml.a2 ml.k2 ml.d2, .slice ml.a3 ml.k3 ml.d3] 76)) h q ms way) := rs2.below hA; clear rb0 rb1 rb2 rb3 hn2 own2 rs2 wi2 hb hA x0 x1 x2 x3 x4 p0 p1; obtain ⟨⟨p0, p1⟩, -⟩ := id BP; obtain ⟨⟨l0, l1, l2, l3⟩, -⟩ := id BL)
        | (go_at_call 54; refine (cP _ hmlt.out NL.out).mono ?_; rintro y w3 ⟨c1, t1, c2, t2, rfl, i1, i2, f1, f2, hb⟩; have hs2 : w.heap.size ≤ (w2.alloc (.cells #[.bool ml.l, .slice ml.a1 ml.k1 ml.d1, .slice ml.a2 ml.k2 ml.d2, .slice ml.a3 ml.k3 ml.d3] 76)).heap.size := HB.size; have NN : Hid (NodeR w3 h q c1 nk t1 c2 nv t2 none 0 0 xk xv []) := ⟨HNK.out.1, HNK.out.2, rfl, i1, i2, isI_nil _, f1.off2 (by omega) (by omega), f2.off2 (by omega) (by omega), off2_nil _ _⟩; have hs3 := hb.size; replace GA := GA.below hb; replace HB := Below.tr HB hb; replace WI : Hid (WayIn w3 g ms) := WI.out.turns (Turns.of_below (P := fun _ => False) hb) id; replace RS : Hid (Reps w3 h q ms way) := RS.out.below hb; clear i1 i2 f1 f2 hb p0 p1 l0 l1 l2 l3 z0 z1 z2 z3 z4 z5)
        | (go_at_call 56; refine (cU _ GA hcap.out WI.out ⟨by omega, by omega, by simp at hs3; omega⟩ RS.out NN.out).mono ?_; rintro y w4 ⟨b1, e1, b2, e2, rfl, GA4, ⟨v1, v2⟩, T4⟩))
       go_ret
       exact growC_of rfl GA4 (v1.low HB.size) (v2.low HB.size) ((Turns.of_below HB).trans T4)
      ·
       go_enter Tryz.func33, Tryz.ntmps33
       go_wp2
       rw [← hW]
       clear hW x0 x1 x2 x3 x4 p0 p1
       obtain ⟨x0, x1, x2, x3, x4⟩ := id GA.box
       obtain ⟨⟨p0, p1⟩, -⟩ := id BP
       go_region_held3 (fun V => (V.cell? ⟨h, 0, none⟩ = some (.slice a G.base.length c) ∧ V.cell? ⟨h, 1, none⟩ = some (.slice a' G.now.length c') ∧ V.cell? ⟨h, 2, none⟩ = some (.slice (some ⟨q, 0, none⟩) G.pages.length cp) ∧ V.cell? ⟨h, 3, none⟩ = some (.int .i64 G.root) ∧ V.cell? ⟨h, 4, none⟩ = some (.int .i64 G.gen)) ∧ V.cell? ⟨w.heap.size, 0, none⟩ = some (.string key)) (exact ⟨⟨x0, x1, x2, x3, x4⟩, p0⟩) (first
        | (go_at_call 20; refine (cG _ HB.drew).mono ?_; rintro y w1 ⟨rfl, hb⟩; have hbW : Below W.heap.size W w1 := Below.tr (Below.refl W.heap.size W).drew hb; replace HB := Below.tr HB hbW; replace GA := GA.below hbW; replace BP := BP.below hbW; clear x0 x1 x2 x3 x4 p0 p1; obtain ⟨x0, x1, x2, x3, x4⟩ := id GA.box; obtain ⟨⟨p0, p1⟩, -⟩ := id BP; clear hb))
       go_wp2_with (first
        | (go_at_call 55; refine (cD _ GA).mono ?_; rintro y w2 ⟨g, cap, n2, ms, rfl, hn2, own2, rs2, hb⟩; have hnm : n2 = m + 1 := hn2.trans HX.out.2.1; subst hnm; have hcap : Hid (m + 1 ≤ cap ∧ cap ≤ maxLen) := way_cap own2; have wi2 := owned_way own2; have hglt := own2.lt g rfl; have hs1 := HB.size; have hWs := BP.lt; obtain ⟨ml, hml⟩ : ∃ ml, Hid (ms[m]? = some ml) := way_at rs2 HX.out.1; obtain ⟨rb0, rb1, rb2, rb3⟩ := rs2.2 m ml sl hml.out HX.out.1; have hmlt : Hid (ml.l = true) := rb1.trans HX.out.2.2.2; obtain ⟨z0, z1, z2, z3, z4, z5⟩ := wi2 m ml hml.out; have hA : Below w2.heap.size w2 (w2.alloc (.cells #[.bool ml.l, .slice ml.a1 ml.k1 ml.d1, .slice ml.a2 ml.k2 ml.d2, .slice ml.a3 ml.k3 ml.d3] 76)) := (Below.refl _ _).alloc (Nat.le_refl _) _; have BL := box4_new w2 (.bool ml.l) (.slice ml.a1 ml.k1 ml.d1) (.slice ml.a2 ml.k2 ml.d2) (.slice ml.a3 ml.k3 ml.d3) 76 rfl; have NL : Hid (NodeR (w2.alloc (.cells #[.bool ml.l, .slice ml.a1 ml.k1 ml.d1, .slice ml.a2 ml.k2 ml.d2, .slice ml.a3 ml.k3 ml.d3] 76)) h q ml.a1 ml.k1 ml.d1 ml.a2 ml.k2 ml.d2 ml.a3 ml.k3 ml.d3 sl.2.1.2.1 sl.2.1.2.2.1 sl.2.1.2.2.2) := rb3.below hA; replace GA := (GA.below hb).below hA; replace HB := Below.tr (Below.tr HB hb) hA; replace BP := (BP.below hb).below hA; have WI : Hid (WayIn (w2.alloc (.cells #[.bool ml.l, .slice ml.a1 ml.k1 ml.d1, .slice ml.a2 ml.k2 ml.d2, .slice ml.a3 ml.k3 ml.d3] 76)) g ms) := wi2.turns (Turns.of_below (P := fun _ => False) hA) id; have RS : Hid (Reps (w2.alloc (.cells #[.bool ml.l, .slice ml.a1 ml.k1 ml.d1, .slice ml.a2 ml.k2 ml.d2, .slice ml.a3 ml.k3 ml.d3] 76)) h q ms way) := rs2.below hA; clear rb0 rb1 rb2 rb3 hn2 own2 rs2 wi2 hb hA x0 x1 x2 x3 x4 p0 p1; obtain ⟨⟨p0, p1⟩, -⟩ := id BP; obtain ⟨⟨l0, l1, l2, l3⟩, -⟩ := id BL)
        | (go_at_call 54; refine (cP _ hmlt.out NL.out).mono ?_; rintro y w3 ⟨c1, t1, c2, t2, rfl, i1, i2, f1, f2, hb⟩; have hs2 : w.heap.size ≤ (w2.alloc (.cells #[.bool ml.l, .slice ml.a1 ml.k1 ml.d1, .slice ml.a2 ml.k2 ml.d2, .slice ml.a3 ml.k3 ml.d3] 76)).heap.size := HB.size; have NN : Hid (NodeR w3 h q c1 nk t1 c2 nv t2 none 0 0 xk xv []) := ⟨HNK.out.1, HNK.out.2, rfl, i1, i2, isI_nil _, f1.off2 (by omega) (by omega), f2.off2 (by omega) (by omega), off2_nil _ _⟩; have hs3 := hb.size; replace GA := GA.below hb; replace HB := Below.tr HB hb; replace WI : Hid (WayIn w3 g ms) := WI.out.turns (Turns.of_below (P := fun _ => False) hb) id; replace RS : Hid (Reps w3 h q ms way) := RS.out.below hb; clear i1 i2 f1 f2 hb p0 p1 l0 l1 l2 l3 z0 z1 z2 z3 z4 z5)
        | (go_at_call 56; refine (cU _ GA hcap.out WI.out ⟨by omega, by omega, by simp at hs3; omega⟩ RS.out NN.out).mono ?_; rintro y w4 ⟨b1, e1, b2, e2, rfl, GA4, ⟨v1, v2⟩, T4⟩))
       go_ret
       exact growC_of rfl GA4 (v1.low HB.size) (v2.low HB.size) ((Turns.of_below HB).trans T4)
  ·
   have hR0 : R = (1, G) := by rw [hR]; unfold putG; rw [if_neg (fun e => hk (isPairB_iff.1 e).1)]
   have hgW : getW G key = (⟨#[]⟩, 1) := by unfold getW; rw [if_neg hk]
   rw [hgW] at cG
   subst hR0
   clear hR hk hgW hr
   go_enter Tryz.func33, Tryz.ntmps33
   go_wp2
   rw [← hW]
   clear hW x0 x1 x2 x3 x4 p0 p1
   obtain ⟨x0, x1, x2, x3, x4⟩ := id GA.box
   obtain ⟨⟨p0, p1⟩, -⟩ := id BP
   go_region_held3 (fun V => (V.cell? ⟨h, 0, none⟩ = some (.slice a G.base.length c) ∧ V.cell? ⟨h, 1, none⟩ = some (.slice a' G.now.length c') ∧ V.cell? ⟨h, 2, none⟩ = some (.slice (some ⟨q, 0, none⟩) G.pages.length cp) ∧ V.cell? ⟨h, 3, none⟩ = some (.int .i64 G.root) ∧ V.cell? ⟨h, 4, none⟩ = some (.int .i64 G.gen)) ∧ V.cell? ⟨w.heap.size, 0, none⟩ = some (.string key)) (exact ⟨⟨x0, x1, x2, x3, x4⟩, p0⟩) (first
    | (go_at_call 20; refine (cG _ HB.drew).mono ?_; rintro y w1 ⟨rfl, hb⟩; have hbW : Below W.heap.size W w1 := Below.tr (Below.refl W.heap.size W).drew hb; replace HB := Below.tr HB hbW; replace GA := GA.below hbW; replace BP := BP.below hbW; clear x0 x1 x2 x3 x4 p0 p1; obtain ⟨x0, x1, x2, x3, x4⟩ := id GA.box; obtain ⟨⟨p0, p1⟩, -⟩ := id BP; clear hb))
   go_wp2
   go_ret
   exact growC_of rfl GA (newer_refl _ _) (newer_refl _ _) (Turns.of_below HB)
 ·
  have hv' : (200 : Int) < val.size := by omega
  have hR0 : R = (1, G) := by rw [hR]; unfold putG; rw [if_neg (fun e => hv (isPairB_iff.1 e).2)]
  subst hR0
  clear cG hR
  go_enter Tryz.func33, Tryz.ntmps33
  go_wp2
  go_ret
  exact growC_of rfl (hW ▸ GA) (newer_refl _ _) (newer_refl _ _) (Turns.of_below (hW ▸ HB))
def allG : WoodS → List (ByteArray × ByteArray) → Int × WoodS
 | G, [] => (0, G)
 | G, p :: ps => if (putG G p.1 p.2).1 = 0 then allG (putG G p.1 p.2).2 ps else ((putG G p.1 p.2).1, WoodS.none)
def allR (G : WoodS) (ps : List (ByteArray × ByteArray)) : Int × WoodS := if G.right = true then allG G ps else (1, WoodS.none)
theorem allG_step {G G' : WoodS} {ps : List (ByteArray × ByteArray)} {p : ByteArray × ByteArray} {j : Nat} (hp : ps[j]? = some p) (h : putG G p.1 p.2 = (0, G')) : allG G (ps.drop j) = allG G' (ps.drop (j + 1)) := by
 obtain ⟨hl, e⟩ := List.getElem?_eq_some_iff.1 hp
 rw [List.drop_eq_getElem_cons hl, e, allG, h, if_pos rfl]
theorem allG_stop {G : WoodS} {ps : List (ByteArray × ByteArray)} {p : ByteArray × ByteArray} {j : Nat} (hp : ps[j]? = some p) (h : (putG G p.1 p.2).1 ≠ 0) : allG G (ps.drop j) = ((putG G p.1 p.2).1, WoodS.none) := by
 obtain ⟨hl, e⟩ := List.getElem?_eq_some_iff.1 hp
 rw [List.drop_eq_getElem_cons hl, e, allG, if_neg h]
theorem allG_end {G : WoodS} {ps : List (ByteArray × ByteArray)} : allG G (ps.drop ps.length) = (0, G) := by rw [List.drop_length, allG]
def AllC (w : World) (e : Ending) (w' : World) (R : Int × WoodS) : Prop :=
 ∃ a1 c1 a2 c2 b3 c3, e = .returned (.tuple #[.agg #[.slice a1 R.2.base.length c1, .slice a2 R.2.now.length c2, .slice b3 R.2.pages.length c3, .int .i64 R.2.root, .int .i64 R.2.gen], .int .i64 R.1]) ∧ (IsB w' a1 c1 R.2.base ∧ IsB w' a2 c2 R.2.now ∧ IsS w' b3 c3 R.2.pages) ∧ (From w.heap.size a1 ∧ From w.heap.size a2 ∧ From w.heap.size b3) ∧ Below w.heap.size w w'
theorem allC_none {w w' : World} (E : Int) (hb : Below w.heap.size w w') : AllC w (.returned (.tuple #[.agg #[.slice none 0 0, .slice none 0 0, .slice none 0 0, .int .i64 0, .int .i64 0], .int .i64 E])) w' (E, WoodS.none) :=
 ⟨none, 0, none, 0, none, 0, rfl, ⟨IsB_nil _, IsB_nil _, isS_nil _⟩, ⟨from_nil _, from_nil _, from_nil _⟩, hb⟩
theorem allC_some {w w1 w' : World} {h q cp : Nat} {a : Option Addr} {c : Nat} {a' : Option Addr} {c' : Nat} {G : WoodS} (g : GrowAt w1 h q cp a c a' c' G) (f1 : From w.heap.size a) (f2 : From w.heap.size a') (hq : w.heap.size ≤ q) {z : Nat} (hb : Below w.heap.size w w1) (t : Turns (fun k => k = z) w1 w') (hz : w.heap.size ≤ z) (hzb : ∀ x, a = some x → x.block ≠ z) (hzn : ∀ x, a' = some x → x.block ≠ z) (hzq : q ≠ z) :
  AllC w (.returned (.tuple #[.agg #[.slice a G.base.length c, .slice a' G.now.length c', .slice (some ⟨q, 0, none⟩) G.pages.length cp, .int .i64 G.root, .int .i64 G.gen], .int .i64 0])) w' (0, G) :=
 ⟨a, c, a', c', some ⟨q, 0, none⟩, cp, rfl, ⟨g.bs.turns t hzb, g.ns.turns t hzn, (g.pg.turns t hzq).isS⟩, ⟨f1, f2, fun x hx => by cases hx; exact hq⟩, Below.turns hb t fun i e => by omega⟩
theorem growAt_new {w : World} {a : Option Addr} {c : Nat} {a' : Option Addr} {c' q cp : Nat} {G : WoodS} {B : Nat} (o1 : OwnT B w a c G.base) (o2 : OwnT B w a' c' G.now) (o3 : RowP w q cp G.pages) (n1 : 1 ≤ G.base.length) (n2 : 1 ≤ G.now.length) (n3 : 1 ≤ G.pages.length) (t : TypeId) {h : Nat} (hh : h = w.heap.size) :
  GrowAt (w.alloc (.cells #[.slice a G.base.length c, .slice a' G.now.length c', .slice (some ⟨q, 0, none⟩) G.pages.length cp, .int .i64 G.root, .int .i64 G.gen] t)) h q cp a c a' c' G := by
 obtain ⟨bx, f0, f1, f2, f3, f4⟩ := box5_new w (.slice a G.base.length c) (.slice a' G.now.length c') (.slice (some ⟨q, 0, none⟩) G.pages.length cp) (.int .i64 G.root) (.int .i64 G.gen) t hh
 have hb := (Below.refl w.heap.size w).alloc (Nat.le_refl _) (.cells #[.slice a G.base.length c, .slice a' G.now.length c', .slice (some ⟨q, 0, none⟩) G.pages.length cp, .int .i64 G.root, .int .i64 G.gen] t)
 have hq0 := (o3.at_ 0 _ (List.getElem?_eq_getElem (by omega))).1
 have off : ∀ (l : List Bool) (x : Option Addr) (cx : Nat), 1 ≤ l.length → OwnT B w x cx l → Off2 h q x := by
  intro l x cx hl o
  obtain ⟨g, rfl, hg, hr⟩ := o.some (by omega)
  intro y hy
  cases hy
  refine ⟨fun e => ?_, fun e => ?_⟩
  ·
   have := hr.lt
   simp only at e
   omega
  ·
   simp only at e
   subst e
   have := (hr.cell (List.getElem?_eq_getElem (by omega : 0 < l.length))).1
   rw [hq0] at this
   cases this
 exact ⟨bx, f0, f1, f3, o1.isB.below hb, o2.isB.below hb, off _ _ _ n1 o1, off _ _ _ n2 o2, o3.turns (P := fun _ => False) (Turns.of_below hb) id, (by have := o3.lt; omega), o1.held.mono hb.size, o2.held.mono hb.size⟩
set_option maxRecDepth 20000 in
set_option maxHeartbeats 4000000 in
theorem growAll_any (a a' b d : Option Addr) (c c' f k dc : Nat) (G : WoodS) (ps : List (ByteArray × ByteArray)) (w : World) (hk : k = ps.length) (hB : IsB w a c G.base) (hB' : IsB w a' c' G.now) (hP : IsS w b f G.pages) (hQ : IsQ w d dc ps) :
  Calls Tryz.prog 21 #[.agg #[.slice a G.base.length c, .slice a' G.now.length c', .slice b G.pages.length f, .int .i64 G.root, .int .i64 G.gen], .slice d k dc] w fun e w' => AllC w e w' (allR G ps) := by
 obtain ⟨n, hn⟩ : ∃ n, n = G.base.length := ⟨_, rfl⟩
 obtain ⟨n', hn'⟩ : ∃ n, n = G.now.length := ⟨_, rfl⟩
 obtain ⟨p, hp⟩ : ∃ n, n = G.pages.length := ⟨_, rfl⟩
 obtain ⟨W, hW⟩ : ∃ W, W = (w.alloc (.cells #[.slice a n c, .slice a' n' c', .slice b p f, .int .i64 G.root, .int .i64 G.gen] 27)).alloc (.cells #[.slice none 0 0, .slice none 0 0, .slice none 0 0, .int .i64 0, .int .i64 0] 27) := ⟨_, rfl⟩
 have BX : Box5 W w.heap.size (.slice a n c) (.slice a' n' c') (.slice b p f) (.int .i64 G.root) (.int .i64 G.gen) := by rw [hW]; exact (box5_new _ _ _ _ _ _ _ rfl).alloc _
 have BO : Box5 W (w.heap.size + 1) (.slice none 0 0) (.slice none 0 0) (.slice none 0 0) (.int .i64 0) (.int .i64 0) := by rw [hW]; exact box5_new _ _ _ _ _ _ _ (by simp)
 have HB : Below w.heap.size w W := by rw [hW]; exact ((Below.refl _ _).alloc (Nat.le_refl _) _).alloc (by simp) _
 have hWs : W.heap.size = w.heap.size + 2 := by rw [hW]; simp
 have cR := lookRight_any a a' b n c n' c' p f G.base G.now G.pages G.root G.gen W hn hn' hp (hB.below HB) (hB'.below HB) (hP.below HB)
 obtain ⟨x0, x1, x2, x3, x4⟩ := (hW ▸ BX).1
 rw [← hn, ← hn', ← hp]
 cases hr : G.right with
 | false =>
  have e1 : allR G ps = (1, WoodS.none) := by unfold allR; rw [hr]; rfl
  have cR' : Calls Tryz.prog 30 #[.agg #[.slice a n c, .slice a' n' c', .slice b p f, .int .i64 G.root, .int .i64 G.gen]] W fun e w' => e = .returned (.bool false) ∧ Below W.heap.size W w' := by rw [← hr]; exact cR
  rw [e1]
  clear e1 hr hn hn' hp hk hB hB' hP hQ cR
  go_enter Tryz.func21, Tryz.ntmps21
  go_wp2_with (go_at_call 30; rw [← hW]; refine cR'.mono ?_; rintro y w1 ⟨rfl, hb⟩; replace BO := BO.below hb; replace HB := Below.tr HB hb; clear hb x0 x1 x2 x3 x4; obtain ⟨⟨y0, y1, y2, y3, y4⟩, f0, f1, f2, f3, f4⟩ := id BO; obtain ⟨z0, z1, z2, z3, z4⟩ := set5_box BO.1 (.slice none 0 0) (.slice none 0 0) (.slice none 0 0) (.int .i64 0) (.int .i64 0); unfold set5 at z0 z1 z2 z3 z4)
  refine bodyPost_ret (v := .tuple #[.agg #[.slice none 0 0, .slice none 0 0, .slice none 0 0, .int .i64 0, .int .i64 0], .int .i64 1]) (by simp [results, Tryz.results21, go_sem, z0, z1, z2, z3, z4]) rfl (allC_none 1 ?_)
  exact Below.turns HB (set5_turns (P := fun k => k = w.heap.size + 1) (Turns.refl _ _) rfl _ _ _ _ _) fun i e => by omega
 | true =>
  have e1 : allR G ps = allG G ps := by unfold allR; rw [if_pos hr]
  rw [e1]
  clear e1
  obtain ⟨hok, -⟩ := right_ok.1 hr
  obtain ⟨hl, h24, h4k, -⟩ := (rightA_iff _ _).1 hok.alloc
  have hpl := hok.len
  have cR' : Calls Tryz.prog 30 #[.agg #[.slice a n c, .slice a' n' c', .slice b p f, .int .i64 G.root, .int .i64 G.gen]] W fun e w' => e = .returned (.bool true) ∧ Below W.heap.size W w' := by rw [← hr]; exact cR
  have cC : ∀ V, Below w.heap.size w V → Calls Tryz.prog 32 #[.agg #[.slice a n c, .slice a' n' c', .slice b p f, .int .i64 G.root, .int .i64 G.gen]] V fun e w' => CopC V e w' n n' p G.base G.now G.pages G.root G.gen := fun V hV =>
   copied_any a a' b n c n' c' p f G.base G.now G.pages G.root G.gen V hn hn' hp (hB.below hV) (hB'.below hV) (hP.below hV) (by omega) (by omega) (by omega) (by omega)
  have cN : ∀ (V : World) {a1 : Option Addr} {c1 : Nat} {a2 : Option Addr} {c2 q cp B : Nat}, OwnT B V a1 c1 G.base → OwnT B V a2 c2 G.now → RowP V q cp G.pages → GrowAt (V.alloc (.cells #[.slice a1 n c1, .slice a2 n' c2, .slice (some ⟨q, 0, none⟩) p cp, .int .i64 G.root, .int .i64 G.gen] 71)) V.heap.size q cp a1 c1 a2 c2 G := fun V a1 c1 a2 c2 q cp B o1 o2 o3 => by
   rw [hn, hn', hp]
   exact growAt_new o1 o2 o3 (by omega) (by omega) (by omega) _ rfl
  have mk : k ≤ 9223372036854775807 := by rw [hk]; exact Nat.le_trans hQ.1 hQ.2.1
  have HK : Hid (k = ps.length) := hk
  have RQ : Hid (IsQ w d dc ps) := hQ
  have HR : Hid (G.right = true) := hr
  clear hr hn hn' hp hk hB hB' hP hQ cR hok hl h24 h4k hpl
  go_enter Tryz.func21, Tryz.ntmps21
  go_wp2_with (first
   | (go_at_call 30; rw [← hW]; refine cR'.mono ?_; rintro y w1 ⟨rfl, hb⟩; replace BO := BO.below hb; replace BX := BX.below hb; have hs1 := hb.size; replace HB := Below.tr HB hb; clear hb x0 x1 x2 x3 x4; obtain ⟨x0, x1, x2, x3, x4⟩ := BX.1)
   | (go_at_call 32; refine (cC _ HB).mono ?_; rintro y w2 ⟨a1, c1, a2, c2, q, cp, rfl, o1, o2, o3, hq, hb⟩; have F1 := o1.from; have F2 := o2.from; have GA := cN w2 o1 o2 o3; replace BO := (BO.below hb).alloc (.cells #[.slice a1 n c1, .slice a2 n' c2, .slice (some ⟨q, 0, none⟩) p cp, .int .i64 G.root, .int .i64 G.gen] 71); have hs2 := hb.size; replace HB := (Below.tr HB hb).alloc (Below.tr HB hb).size (.cells #[.slice a1 n c1, .slice a2 n' c2, .slice (some ⟨q, 0, none⟩) p cp, .int .i64 G.root, .int .i64 G.gen] 71); clear o1 o2 o3 hb x0 x1 x2 x3 x4))
  have hsh : w.heap.size + 2 ≤ w2.heap.size := by omega
  have hsq : w.heap.size + 2 ≤ q := by omega
  replace F1 : From (w.heap.size + 2) a1 := F1.mono (by omega)
  replace F2 : From (w.heap.size + 2) a2 := F2.mono (by omega)
  clear hs1 hs2 hq hW hWs cR' cC cN BX
  generalize w2.heap.size = h at *
  generalize w2.alloc _ = W3 at *
  go_loopw [19] (fun v wr => ∃ (j : Nat) (b1 : Option Addr) (e1 : Nat) (b2 : Option Addr) (e2 : Nat) (Gj : WoodS), j ≤ k ∧ v = .int .i64 j ∧ (allG G ps = allG Gj (ps.drop j) ∧ Gj.right = true) ∧ GrowAt wr h q cp b1 e1 b2 e2 Gj ∧ (From (w.heap.size + 2) b1 ∧ From (w.heap.size + 2) b2) ∧ Box5 wr (w.heap.size + 1) (.slice none 0 0) (.slice none 0 0) (.slice none 0 0) (.int .i64 0) (.int .i64 0) ∧ Below w.heap.size w wr) (fun v _ => k - (intOf v).toNat)
  case atStart => exact ⟨0, a1, c1, a2, c2, G, by omega, rfl, ⟨rfl, HR.out⟩, GA, ⟨F1, F2⟩, BO, HB⟩
  case round =>
   clear GA F1 F2 BO HB
   obtain ⟨j, b1, e1, b2, e2, Gj, hj, rfl, hA, GA, ⟨F1, F2⟩, BO, HB⟩ := hrel
   have HA : Hid (allG G ps = allG Gj (ps.drop j) ∧ Gj.right = true) := hA
   clear hA
   by_cases hlt : j < k
   ·
    have hlt' : (j : Int) < k := by omega
    obtain ⟨⟨ky, vl⟩, hp⟩ : ∃ x, Hid (ps[j]? = some x) := get_some (by rw [← HK.out]; exact hlt)
    obtain ⟨bb, oo, rfl, -, hc0, hc1, mk1, mk2⟩ := RQ.out.2.2 j (ky, vl) hp.out
    have z0 := cell_below HB hc0
    have z1 := cell_below HB hc1
    have cP : ∀ V, GrowAt V h q cp b1 e1 b2 e2 Gj → Calls Tryz.prog 33 #[.pointer (some ⟨h, 0, none⟩), .agg #[.string ky, .string vl]] V fun x w' => GrowC V x w' h q cp b1 b2 (putG Gj ky vl) := fun V g => growPut_any h q cp b1 e1 b2 e2 Gj ky vl V g HA.out.2 mk1 mk2
    obtain ⟨⟨E, Gn⟩, hE⟩ : ∃ x, Hid (x = putG Gj ky vl) := ⟨_, rfl⟩
    have hE' := hE.out
    rw [← hE'] at cP
    clear hE' hc0 hc1 mk1 mk2
    have hA2 : Below wr.heap.size wr (wr.alloc (.cells #[.string ky, .string vl] 50)) := (Below.refl _ _).alloc (Nat.le_refl _) _
    replace GA := GA.below hA2
    replace BO := BO.below hA2
    replace HB := Below.tr HB hA2
    have hs3 := BO.lt
    clear hA2
    by_cases h0 : E = 0
    ·
     subst h0
     go_wp2_with (go_at_call 33; refine (cP _ GA).mono ?_; rintro y w3 ⟨d1, g1, d2, g2, rfl, GA3, ⟨v1, v2⟩, T3⟩)
     go_roundw
     case rel =>
      refine ⟨j + 1, d1, g1, d2, g2, Gn, by omega, by go_num, ⟨?_, ?_⟩, GA3, ⟨?_, ?_⟩, BO.turns T3 (by unfold Mine; omega), Below.turns HB T3 (by unfold Mine; intro i; omega)⟩
      ·
       rw [HA.out.1]; exact allG_step hp.out hE.out.symm
      ·
       have := put_loose HA.out.2 ky vl
       rw [← hE.out] at this
       rcases this with ⟨h, _⟩ | ⟨_, (h | h) | h⟩
       ·
        have h' : (0 : Int) = 1 := h; omega
       ·
        have h' : (0 : Int) = 60 := h; omega
       ·
        have h' : (0 : Int) = 81 := h; omega
       ·
        exact h.2.1
      ·
       rcases v1 with rfl | v1
       ·
        exact F1
       ·
        exact v1.mono (by omega)
      ·
       rcases v2 with rfl | v2
       ·
        exact F2
       ·
        exact v2.mono (by omega)
     case measure => simp [intOf]; omega
    ·
     have hf : Hid (allG G ps = (E, WoodS.none)) := by
      show _ = _
      rw [HA.out.1, allG_stop hp.out (by rw [← hE.out]; exact h0), ← hE.out]
     have h0' : (E != 0) = true := by simpa using h0
     go_wp2_with (go_at_call 33; refine (cP _ GA).mono ?_; rintro y w3 ⟨d1, g1, d2, g2, rfl, GA3, ⟨v1, v2⟩, T3⟩; replace BO := BO.turns T3 (by unfold Mine; omega); replace HB := Below.turns HB T3 (by unfold Mine; intro i; omega); clear GA3 v1 v2 T3 z0 z1; obtain ⟨⟨y0, y1, y2, y3, y4⟩, f0, f1, f2, f3, f4⟩ := id BO; obtain ⟨z0, z1, z2, z3, z4⟩ := set5_box BO.1 (.slice none 0 0) (.slice none 0 0) (.slice none 0 0) (.int .i64 0) (.int .i64 0); unfold set5 at z0 z1 z2 z3 z4)
     rw [hf.out]
     refine bodyPost_ret (v := .tuple #[.agg #[.slice none 0 0, .slice none 0 0, .slice none 0 0, .int .i64 0, .int .i64 0], .int .i64 E]) (by simp [results, Tryz.results21, go_sem, z0, z1, z2, z3, z4]) rfl (allC_none E ?_)
     exact Below.turns HB (set5_turns (P := fun k => k = w.heap.size + 1) (Turns.refl _ _) rfl _ _ _ _ _) fun i e => by omega
   ·
    obtain rfl : k = j := by omega
    have hj0 : ¬ (k : Int) < k := by omega
    have hf : Hid (allG G ps = (0, Gj)) := by
     show _ = _
     rw [HA.out.1, HK.out]
     exact allG_end
    obtain ⟨x0, x1, x2, x3, x4⟩ := id GA.box
    obtain ⟨⟨y0, y1, y2, y3, y4⟩, f0, f1, f2, f3, f4⟩ := id BO
    obtain ⟨z0, z1, z2, z3, z4⟩ := set5_box BO.1 (.slice b1 Gj.base.length e1) (.slice b2 Gj.now.length e2) (.slice (some ⟨q, 0, none⟩) Gj.pages.length cp) (.int .i64 Gj.root) (.int .i64 Gj.gen)
    unfold set5 at z0 z1 z2 z3 z4
    go_wp2
    rw [hf.out]
    refine bodyPost_ret (v := .tuple #[.agg #[.slice b1 Gj.base.length e1, .slice b2 Gj.now.length e2, .slice (some ⟨q, 0, none⟩) Gj.pages.length cp, .int .i64 Gj.root, .int .i64 Gj.gen], .int .i64 0]) (by simp [results, Tryz.results21, go_sem, z0, z1, z2, z3, z4]) rfl ?_
    exact allC_some GA (F1.mono (by omega)) (F2.mono (by omega)) (by omega) (z := w.heap.size + 1) HB (set5_turns (P := fun k => k = w.heap.size + 1) (Turns.refl _ _) rfl _ _ _ _ _) (by omega) (fun x hx => by have := F1 x hx; omega) (fun x hx => by have := F2 x hx; omega) (by omega)
theorem allR_one (G : WoodS) (key val : ByteArray) : allR G [(key, val)] = if G.right = true then (if (putG G key val).1 = 0 then (0, (putG G key val).2) else ((putG G key val).1, WoodS.none)) else (1, WoodS.none) := by
 unfold allR
 split
 ·
  rw [allG]
  simp only
  split
  ·
   rw [allG]
  ·
   rfl
 ·
  rfl
set_option maxRecDepth 20000 in
set_option maxHeartbeats 4000000 in
theorem growPut1_any (a a' b : Option Addr) (c c' f : Nat) (G : WoodS) (key val : ByteArray) (w : World) (hB : IsB w a c G.base) (hB' : IsB w a' c' G.now) (hP : IsS w b f G.pages) (mk : key.size ≤ maxLen) (mv : val.size ≤ maxLen) :
  Calls Tryz.prog 11 #[.agg #[.slice a G.base.length c, .slice a' G.now.length c', .slice b G.pages.length f, .int .i64 G.root, .int .i64 G.gen], .string key, .string val] w fun e w' => AllC w e w' (allR G [(key, val)]) := by
 obtain ⟨n, hn⟩ : ∃ n, n = G.base.length := ⟨_, rfl⟩
 obtain ⟨n', hn'⟩ : ∃ n, n = G.now.length := ⟨_, rfl⟩
 obtain ⟨p, hp⟩ : ∃ n, n = G.pages.length := ⟨_, rfl⟩
 obtain ⟨W, hW⟩ : ∃ W, W = (w.alloc (.cells #[.slice a n c, .slice a' n' c', .slice b p f, .int .i64 G.root, .int .i64 G.gen] 27)).alloc (.cells #[.slice none 0 0, .slice none 0 0, .slice none 0 0, .int .i64 0, .int .i64 0] 27) := ⟨_, rfl⟩
 have BX : Box5 W w.heap.size (.slice a n c) (.slice a' n' c') (.slice b p f) (.int .i64 G.root) (.int .i64 G.gen) := by rw [hW]; exact (box5_new _ _ _ _ _ _ _ rfl).alloc _
 have BO : Box5 W (w.heap.size + 1) (.slice none 0 0) (.slice none 0 0) (.slice none 0 0) (.int .i64 0) (.int .i64 0) := by rw [hW]; exact box5_new _ _ _ _ _ _ _ (by simp)
 have HB : Below w.heap.size w W := by rw [hW]; exact ((Below.refl _ _).alloc (Nat.le_refl _) _).alloc (by simp) _
 have hWs : W.heap.size = w.heap.size + 1 + 1 := by rw [hW]; simp
 obtain ⟨x0, x1, x2, x3, x4⟩ := (hW ▸ BX).1
 obtain ⟨R, hR⟩ : ∃ R, R = allR G [(key, val)] := ⟨_, rfl⟩
 have cA : ∀ V g, Below w.heap.size w V → IsQ V (some ⟨g, 0, none⟩) 1 [(key, val)] → Calls Tryz.prog 21 #[.agg #[.slice a n c, .slice a' n' c', .slice b p f, .int .i64 G.root, .int .i64 G.gen], .slice (some ⟨g, 0, none⟩) 1 1] V fun e w' => AllC V e w' R := fun V g h hq => by
  rw [hn, hn', hp, hR]
  exact growAll_any a a' b _ c c' f 1 1 G [(key, val)] V rfl (hB.below h) (hB'.below h) (hP.below h) hq
 have hA2 : Below W.heap.size W (W.alloc (.cells #[.string key, .string val] 50)) := (Below.refl _ _).alloc (Nat.le_refl _) _
 have hQ : IsQ (W.alloc (.cells #[.string key, .string val] 50)) (some ⟨W.heap.size, 0, none⟩) 1 [(key, val)] := by
  obtain ⟨⟨p0, p1⟩, -⟩ := box2_new W (.string key) (.string val) 50 rfl
  refine ⟨Nat.le_refl _, by decide, fun j x hx => ?_⟩
  cases j with
  | succ j => simp at hx
  | zero =>
   cases hx
   exact ⟨W.heap.size, 0, rfl, by simp, by rw [Nat.zero_mul]; exact p0, by rw [Nat.zero_mul]; exact p1, mk, mv⟩
 rw [← hn, ← hn', ← hp, ← hR]
 replace BO := BO.below hA2
 replace HB := Below.tr HB hA2
 have cA' := cA _ _ HB hQ
 have hQs : Hid (w.heap.size + 3 = (W.alloc (.cells #[.string key, .string val] 50)).heap.size) := by show _ = _; simp; omega
 rw [hWs] at cA'
 obtain ⟨rE, rG⟩ := R
 clear hn hn' hp hB hB' hP cA hQ hR BX hA2 hWs
 go_enter Tryz.func11, Tryz.ntmps11
 go_wp2_with (go_at_call 21; rw [← hW]; refine cA'.mono ?_; rintro y w1 ⟨a1, c1, a2, c2, b3, c3, rfl, I, F, hb⟩; have hs := hQs.out; replace BO := BO.below hb; replace HB := Below.tr HB hb; clear hb x0 x1 x2 x3 x4; obtain ⟨⟨y0, y1, y2, y3, y4⟩, f0, f1, f2, f3, f4⟩ := id BO; obtain ⟨z0, z1, z2, z3, z4⟩ := set5_box BO.1 (.slice a1 rG.base.length c1) (.slice a2 rG.now.length c2) (.slice b3 rG.pages.length c3) (.int .i64 rG.root) (.int .i64 rG.gen); unfold set5 at z0 z1 z2 z3 z4)
 refine bodyPost_ret (v := .tuple #[.agg #[.slice a1 rG.base.length c1, .slice a2 rG.now.length c2, .slice b3 rG.pages.length c3, .int .i64 rG.root, .int .i64 rG.gen], .int .i64 rE]) (by simp [results, Tryz.results11, go_sem, z0, z1, z2, z3, z4]) rfl ?_
 have t : Turns (fun k => k = w.heap.size + 1) w1 (set5 w1 (w.heap.size + 1) (.slice a1 rG.base.length c1) (.slice a2 rG.now.length c2) (.slice b3 rG.pages.length c3) (.int .i64 rG.root) (.int .i64 rG.gen)) := set5_turns (P := fun k => k = w.heap.size + 1) (Turns.refl _ _) rfl _ _ _ _ _
 rw [← hs] at F
 exact ⟨a1, c1, a2, c2, b3, c3, rfl, ⟨I.1.turns t (fun x hx => by have := F.1 x hx; omega), I.2.1.turns t (fun x hx => by have := F.2.1 x hx; omega), I.2.2.turns t (fun x hx => by have := F.2.2 x hx; omega)⟩, ⟨F.1.mono (by omega), F.2.1.mono (by omega), F.2.2.mono (by omega)⟩, Below.turns HB t fun i e => by omega⟩
theorem push_T (W : World) (base : Nat) (v : Value) (n : Nat) (l : List Bool) (x : Bool) (hown : W.ownsRow base 4 1 v n (l.map Value.bool)) (hb : base ≤ W.heap.size) (hn : n ≤ 4096) :
  ∃ g cap w', (Builtin.append_ #[22, 22] 22 #[v, .slice (some ⟨W.heap.size, 0, none⟩) 1 1]).run Tryz.prog (W.alloc (.cells #[.bool x] 4)) = .ok (.slice (some ⟨g, 0, none⟩) (n + 1) cap) w' ∧
   w'.ownsRow base 4 1 (.slice (some ⟨g, 0, none⟩) (n + 1) cap) (n + 1) ((l ++ [x]).map Value.bool) ∧ (W.alloc (.cells #[.bool x] 4)).grownBy w' v.ownBlock ∧ (v.ownBlock = some g ∨ g = W.heap.size + 1) ∧ base ≤ g := by
 obtain ⟨i0, hi, hz0, hz1, hz2⟩ := info_parts Tryz.info4
 obtain ⟨g, cap, w', h1, h2, h3, h4, h5⟩ := run_append_lies (P := Tryz.prog) (W.alloc (.cells #[.bool x] 4)) 22 22 base 4 i0 _ 1 1 Tryz.underlying22 hi hz0 hz1 hz2 rfl (by decide) v n (l.map Value.bool) (hown.alloc _) ⟨W.heap.size, 0, none⟩ 1 1 [.bool x] rfl
  (by
   intro j u hj
   match j, hj with
   | 0, hj => simp at hj; subst hj; rw [at_add]; exact World.cell?_alloc_at _ _ _ _ rfl)
  (by intro u hu; simp at hu; subst hu; rfl) (by omega) (by unfold maxLen; omega) (by omega) (by simp; omega) (W.heap.size + 1) (by simp)
 refine ⟨g, cap, w', h1, by rw [List.map_append]; exact h2, h3, h4, ?_⟩
 obtain ⟨g', cap', he, hb', _⟩ := h2.form (by omega)
 cases he
 exact hb'
theorem own_span {w : World} {base : Nat} {e : TypeId} {s n : Nat} {v : Value} {xs : List Value} (h : w.ownsRow base e s v n xs) {g : Nat} (hg : v.ownBlock = some g) : base ≤ g ∧ g < w.heap.size := h.lt g hg
theorem Box2.grown {w w' : World} {row : Option Nat} {h : Nat} {v0 v1 : Value} (b : Box2 w h v0 v1) (hg : w.grownBy w' row) (hr : ∀ k, row = some k → h < k) : Box2 w' h v0 v1 := by
 have hl := b.lt
 have hb : w'.heap[h]? = w.heap[h]? := hg.block h hl (fun he => by have := hr h he.symm; omega)
 obtain ⟨⟨c0, c1⟩, f0, f1⟩ := b
 exact ⟨⟨by rw [World.cell?_of_block (w := w) hb]; exact c0, by rw [World.cell?_of_block (w := w) hb]; exact c1⟩, by rw [World.frozen?_of_block (w := w) hb]; exact f0, by rw [World.frozen?_of_block (w := w) hb]; exact f1⟩
theorem Box2.set0 {w : World} {h : Nat} {v0 v1 : Value} (b : Box2 w h v0 v1) (u : Value) : Box2 (w.setCell ⟨h, 0, none⟩ u) h u v1 := by
 obtain ⟨⟨c0, c1⟩, f0, f1⟩ := b
 refine ⟨⟨World.cell?_setCell_same _ _ _ c0, ?_⟩, by simpa using f0, by simpa using f1⟩
 rw [World.cell?_setCell_other _ _ _ _ (fun hh => by cases hh)]; exact c1
theorem Box2.set1 {w : World} {h : Nat} {v0 v1 : Value} (b : Box2 w h v0 v1) (u : Value) : Box2 (w.setCell ⟨h, 1, none⟩ u) h v0 u := by
 obtain ⟨⟨c0, c1⟩, f0, f1⟩ := b
 refine ⟨⟨?_, World.cell?_setCell_same _ _ _ c1⟩, by simpa using f0, by simpa using f1⟩
 rw [World.cell?_setCell_other _ _ _ _ (fun hh => by cases hh)]; exact c0
theorem own_below {w : World} {B : Nat} {e : TypeId} {n h i m : Nat} {v : Value} {xs : List Value} {u : Value} (hr : w.ownsRow B e m v n xs) (hh : h < B) : (w.setCell ⟨h, i, none⟩ u).ownsRow B e m v n xs :=
 ownsRow_setCell_below hr (a := ⟨h, i, none⟩) hh u
theorem ownT_of {w : World} {base : Nat} {v : Value} {n : Nat} {l : List Bool} (hl : l.length = n) (h : w.ownsRow base 4 1 v n (l.map Value.bool)) : ∃ a c, v = .slice a n c ∧ OwnT base w a c l := by
 subst hl
 rcases ownsRow_T h with ⟨rfl, rfl⟩ | ⟨g, cap, rfl, hg, hr⟩
 ·
  exact ⟨none, 0, rfl, OwnT_nil _ _⟩
 ·
  exact ⟨_, _, rfl, .inr ⟨g, rfl, hg, hr⟩⟩
set_option maxRecDepth 20000 in
set_option maxHeartbeats 4000000 in
theorem allocRefNewF_any (n : Nat) (w : World) (hn : n ≤ 2048) :
  Calls Tryz.prog 35 #[.int .i64 n] w fun e w' => ∃ a1 c1 a2 c2, e = .returned (.agg #[.slice a1 n c1, .slice a2 n c2]) ∧ OwnT w.heap.size w' a1 c1 (freshL n) ∧ OwnT w.heap.size w' a2 c2 (freshL n) ∧ Below w.heap.size w w' := by
 obtain ⟨W, hW⟩ : ∃ W, W = (w.alloc (.cells #[.slice none 0 0, .slice none 0 0] 24)).alloc (.cells #[.slice none 0 0, .slice none 0 0] 24) := ⟨_, rfl⟩
 obtain ⟨hB0, hWs, bo, bi⟩ := two_box2 hW
 go_enter Tryz.func35, Tryz.ntmps35
 go_wp2
 rw [← hW]
 go_loopw [4] (fun v wr => ∃ (j : Nat) (v0 v1 : Value), j ≤ n ∧ v = .int .i64 j ∧ Box2 wr w.heap.size (.slice none 0 0) (.slice none 0 0) ∧ Box2 wr (w.heap.size + 1) v0 v1 ∧ wr.ownsRow (w.heap.size + 2) 4 1 v0 j ((freshL j).map Value.bool) ∧ wr.ownsRow (w.heap.size + 2) 4 1 v1 j ((freshL j).map Value.bool) ∧ (∀ g, v0.ownBlock = some g → v1.ownBlock ≠ some g) ∧ Below w.heap.size w wr ∧ w.heap.size + 2 ≤ wr.heap.size) (fun v _ => n - (intOf v).toNat)
 case atStart =>
  refine ⟨0, .slice none 0 0, .slice none 0 0, by omega, rfl, bo, bi, ⟨rfl, .inl ⟨rfl, rfl⟩⟩, ⟨rfl, .inl ⟨rfl, rfl⟩⟩, fun g hg => (by simp [Value.ownBlock] at hg), hB0, by omega⟩
 case round =>
  obtain ⟨j, v0, v1, hj, rfl, box, bix, hr0, hr1, hap, hbel, hsz⟩ := hrel
  by_cases hlt : j < n
  ·
   have hlt' : (j : Int) < n := by omega
   obtain ⟨x, hx⟩ : ∃ x, x = decide ((j : Int) < 10) := ⟨_, rfl⟩
   have hnx : freshL (j + 1) = freshL j ++ [x] := by rw [freshL_succ, hx]; congr 2; rw [decide_eq_decide]; omega
   obtain ⟨g0, cap0, w1, run0, own0, gr0, at0, ge0⟩ := push_T wr (w.heap.size + 2) v0 j (freshL j) x hr0 hsz (by omega)
   have hrow0 : ∀ k, v0.ownBlock = some k → w.heap.size + 1 < k := fun k hk => by have := (own_span hr0 hk).1; omega
   have box1 : Box2 w1 w.heap.size (.slice none 0 0) (.slice none 0 0) := (box.alloc _).grown gr0 (fun k hk => by have := hrow0 k hk; omega)
   have bix1 : Box2 w1 (w.heap.size + 1) v0 v1 := (bix.alloc _).grown gr0 hrow0
   have hr1' : w1.ownsRow (w.heap.size + 2) 4 1 v1 j ((freshL j).map Value.bool) := (hr1.alloc _).kept gr0 (by
    cases h : v1.ownBlock with
    | none => exact .inl rfl
    | some k => exact .inr (fun he => hap k he.symm h))
   have hap1 : ∀ k, v1.ownBlock = some k → k ≠ g0 := by
    intro k hk he
    subst he
    rcases at0 with h | h
    ·
     exact hap k h hk
    ·
     have := (own_span hr1 hk).2; omega
   have hb1 : Below w.heap.size w w1 := (hbel.alloc (by omega) _).grown gr0 (by simp; omega) (fun k hk => by have := hrow0 k hk; omega)
   have hsz1 : w.heap.size + 2 ≤ w1.heap.size := by have := (own_span own0 rfl).2; have := gr0.size; simp at this; omega
   obtain ⟨W2, hW2⟩ : ∃ W2, W2 = w1.setCell ⟨w.heap.size + 1, 0, none⟩ (.slice (some ⟨g0, 0, none⟩) (j + 1) cap0) := ⟨_, rfl⟩
   have own0' : W2.ownsRow (w.heap.size + 2) 4 1 (.slice (some ⟨g0, 0, none⟩) (j + 1) cap0) (j + 1) ((freshL j ++ [x]).map Value.bool) := by rw [hW2]; exact own_below own0 (by omega)
   have hr1'' : W2.ownsRow (w.heap.size + 2) 4 1 v1 j ((freshL j).map Value.bool) := by rw [hW2]; exact own_below hr1' (by omega)
   have box2 : Box2 W2 w.heap.size (.slice none 0 0) (.slice none 0 0) := by
    rw [hW2]
    refine ⟨⟨?_, ?_⟩, by simpa using box1.2.1, by simpa using box1.2.2⟩
    ·
     rw [World.cell?_setCell_other _ _ _ _ (fun hh => absurd (congrArg Addr.block hh) (by simp))]; exact box1.1.1
    ·
     rw [World.cell?_setCell_other _ _ _ _ (fun hh => absurd (congrArg Addr.block hh) (by simp))]; exact box1.1.2
   have bix2 : Box2 W2 (w.heap.size + 1) (.slice (some ⟨g0, 0, none⟩) (j + 1) cap0) v1 := by rw [hW2]; exact bix1.set0 _
   have hb2 : Below w.heap.size w W2 := by rw [hW2]; exact hb1.setCell (p := ⟨w.heap.size + 1, 0, none⟩) (Nat.le_succ _) _
   have hsz2 : w.heap.size + 2 ≤ W2.heap.size := by rw [hW2]; simpa using hsz1
   have g0lt : g0 < W2.heap.size := (own_span own0' rfl).2
   obtain ⟨g1, cap1, w3, run1, own1, gr1, at1, ge1⟩ := push_T W2 (w.heap.size + 2) v1 j (freshL j) x hr1'' hsz2 (by omega)
   have hrow1 : ∀ k, v1.ownBlock = some k → w.heap.size + 1 < k := fun k hk => by have := (own_span hr1'' hk).1; omega
   have box3 : Box2 w3 w.heap.size (.slice none 0 0) (.slice none 0 0) := (box2.alloc _).grown gr1 (fun k hk => by have := hrow1 k hk; omega)
   have bix3 : Box2 w3 (w.heap.size + 1) (.slice (some ⟨g0, 0, none⟩) (j + 1) cap0) v1 := (bix2.alloc _).grown gr1 hrow1
   have own0'' : w3.ownsRow (w.heap.size + 2) 4 1 (.slice (some ⟨g0, 0, none⟩) (j + 1) cap0) (j + 1) ((freshL j ++ [x]).map Value.bool) := (own0'.alloc _).kept gr1 (.inr (fun he => hap1 g0 he.symm rfl))
   have hne : g0 ≠ g1 := by
    intro he
    rcases at1 with h | h
    ·
     exact hap1 g1 h he.symm
    ·
     omega
   have hb3 : Below w.heap.size w w3 := (hb2.alloc (by omega) _).grown gr1 (by simp; omega) (fun k hk => by have := hrow1 k hk; omega)
   have hsz3 : w.heap.size + 2 ≤ w3.heap.size := by have := gr1.size; simp at this; omega
   obtain ⟨⟨q0, q1⟩, f0, f1⟩ := bix
   have HF : Hid (∃ (v0 v1 : Value), Box2 (w3.setCell ⟨w.heap.size + 1, 1, none⟩ (.slice (some ⟨g1, 0, none⟩) (j + 1) cap1)) w.heap.size (.slice none 0 0) (.slice none 0 0) ∧ Box2 (w3.setCell ⟨w.heap.size + 1, 1, none⟩ (.slice (some ⟨g1, 0, none⟩) (j + 1) cap1)) (w.heap.size + 1) v0 v1 ∧ (w3.setCell ⟨w.heap.size + 1, 1, none⟩ (.slice (some ⟨g1, 0, none⟩) (j + 1) cap1)).ownsRow (w.heap.size + 2) 4 1 v0 (j + 1) ((freshL (j + 1)).map Value.bool) ∧ (w3.setCell ⟨w.heap.size + 1, 1, none⟩ (.slice (some ⟨g1, 0, none⟩) (j + 1) cap1)).ownsRow (w.heap.size + 2) 4 1 v1 (j + 1) ((freshL (j + 1)).map Value.bool) ∧ (∀ g, v0.ownBlock = some g → v1.ownBlock ≠ some g) ∧ Below w.heap.size w (w3.setCell ⟨w.heap.size + 1, 1, none⟩ (.slice (some ⟨g1, 0, none⟩) (j + 1) cap1)) ∧ w.heap.size + 2 ≤ (w3.setCell ⟨w.heap.size + 1, 1, none⟩ (.slice (some ⟨g1, 0, none⟩) (j + 1) cap1)).heap.size) := by
    refine ⟨.slice (some ⟨g0, 0, none⟩) (j + 1) cap0, .slice (some ⟨g1, 0, none⟩) (j + 1) cap1, ?_, bix3.set1 _, by rw [hnx]; exact own_below own0'' (by omega), by rw [hnx]; exact own_below own1 (by omega), ?_, hb3.setCell (p := ⟨w.heap.size + 1, 1, none⟩) (Nat.le_succ _) _, by simpa using hsz3⟩
    ·
     refine ⟨⟨?_, ?_⟩, by simpa using box3.2.1, by simpa using box3.2.2⟩
     ·
      rw [World.cell?_setCell_other _ _ _ _ (fun hh => absurd (congrArg Addr.block hh) (by simp))]; exact box3.1.1
     ·
      rw [World.cell?_setCell_other _ _ _ _ (fun hh => absurd (congrArg Addr.block hh) (by simp))]; exact box3.1.2
    ·
     intro g h1 h2
     simp [Value.ownBlock] at h1 h2
     omega
   obtain ⟨⟨k0, k1⟩, k2, k3⟩ := bix1
   obtain ⟨⟨s0, s1⟩, s2, s3⟩ := bix3
   have hs2 : W2.heap.size = w1.heap.size := by rw [hW2]; simp
   rw [hs2, hW2] at run1
   have t1 : True := trivial
   clear hr0 hr1 hap hbel hsz own0 gr0 at0 box1 hr1' hap1 hb1 hsz1 own0' hr1'' box2 bix2 hb2 hsz2 g0lt own1 gr1 at1 box3 own0'' hb3 hsz3 hrow0 hrow1 hnx hW2 hs2 box ge0 ge1 hne
   by_cases h10 : (j : Int) < 10
   ·
    obtain rfl : x = true := by rw [hx]; simp [h10]
    clear hx
    go_wp2_with (first
     | (at_builtin; have _t := t1; refine Lib.wpList_append_run _ rfl _ _ _ _ rfl _ _ rfl rfl _ _ run0 ?_; clear t1)
     | (at_builtin; refine Lib.wpList_append_run _ rfl _ _ _ _ rfl _ _ rfl rfl _ _ run1 ?_))
    go_roundw
    case rel =>
     obtain ⟨u0, u1, hh⟩ := HF.out
     exact ⟨j + 1, u0, u1, by omega, by go_num, hh⟩
    case measure => simp [intOf]; omega
   ·
    obtain rfl : x = false := by rw [hx]; simp [h10]
    clear hx
    go_wp2_with (first
     | (at_builtin; have _t := t1; refine Lib.wpList_append_run _ rfl _ _ _ _ rfl _ _ rfl rfl _ _ run0 ?_; clear t1)
     | (at_builtin; refine Lib.wpList_append_run _ rfl _ _ _ _ rfl _ _ rfl rfl _ _ run1 ?_))
    go_roundw
    case rel =>
     obtain ⟨u0, u1, hh⟩ := HF.out
     exact ⟨j + 1, u0, u1, by omega, by go_num, hh⟩
    case measure => simp [intOf]; omega
  ·
   obtain rfl : j = n := by omega
   obtain ⟨a1, c1, rfl, O1⟩ := ownT_of (freshL_length j) hr0
   obtain ⟨a2, c2, rfl, O2⟩ := ownT_of (freshL_length j) hr1
   obtain ⟨⟨q0, q1⟩, -, -⟩ := bix
   obtain ⟨⟨r0, r1⟩, f0, f1⟩ := box
   have H1 : Hid (OwnT (w.heap.size + 2) wr a1 c1 (freshL j)) := O1
   have H2 : Hid (OwnT (w.heap.size + 2) wr a2 c2 (freshL j)) := O2
   clear hr0 hr1 hap O1 O2
   go_wp2
   refine bodyPost_ret (v := .agg #[.slice a1 j c1, .slice a2 j c2]) (by simp [results, Tryz.results35, go_sem, r0, r1]) rfl ⟨a1, c1, a2, c2, rfl, ?_, ?_, below_set2 hbel (Nat.le_refl _)⟩
   ·
    exact ((H1.out.store (by omega) _ _).store (by omega) _ _).mono (by omega)
   ·
    exact ((H2.out.store (by omega) _ _).store (by omega) _ _).mono (by omega)
end Go.Proofs.YtaecfbfcjaailaaGreat
namespace Go.Proofs.YtaecfbfcjaailaaGreat
open Go.RowKit Plain
open Anylast
set_option linter.unusedVariables false
def emptyM (n : Int) : Nat := (min (max n 24) 200).toNat
def emptyG (m : Nat) : WoodS := ⟨freshL m, freshL m, List.replicate m ⟨#[]⟩, 0, 1⟩
theorem emptyM_in (n : Int) : 24 ≤ emptyM n ∧ emptyM n ≤ 200 ∧ ((emptyM n : Nat) : Int) = min (max n 24) 200 := by
 unfold emptyM
 omega
def EmpV (B m : Nat) (u : Value) (X : World) : Prop :=
 ∃ a1 c1 a2 c2 g, u = .agg #[.slice a1 m c1, .slice a2 m c2, .slice (some ⟨g, 0, none⟩) m m, .int .i64 0, .int .i64 1] ∧ OwnT B X a1 c1 (freshL m) ∧ OwnT B X a2 c2 (freshL m) ∧ IsS X (some ⟨g, 0, none⟩) m (List.replicate m ⟨#[]⟩) ∧ B ≤ g ∧ g < X.heap.size
theorem EmpV.turns {P : Nat → Prop} {B m : Nat} {u : Value} {X Y : World} (h : EmpV B m u X) (t : Turns P X Y) (hp : ∀ i, P i → i < B) : EmpV B m u Y := by
 obtain ⟨a1, c1, a2, c2, g, e, o1, o2, i3, hg, gl⟩ := h
 exact ⟨a1, c1, a2, c2, g, e, o1.turns t hp, o2.turns t hp, i3.turns t (fun x hx k => by cases hx; have h1 : g < B := hp _ k; omega), hg, Nat.lt_of_lt_of_le gl t.size⟩
def empVal (B m : Nat) (i : Nat) (v : Value) (X : World) : Prop :=
 match i with
 | 0 | 2 => v = .int .i64 m
 | 1 => ∃ a1 c1 a2 c2, v = .agg #[.slice a1 m c1, .slice a2 m c2] ∧ OwnT B X a1 c1 (freshL m) ∧ OwnT B X a2 c2 (freshL m)
 | 3 => ∃ g, v = .slice (some ⟨g, 0, none⟩) m m ∧ IsS X (some ⟨g, 0, none⟩) m (List.replicate m ⟨#[]⟩) ∧ B ≤ g ∧ g < X.heap.size
 | 4 => EmpV B m v X
 | _ => True
def EmpS (h m : Nat) (W : World) (k : Nat) (X : World) : Prop :=
 ∃ v0 v1 v2 v3 v4, Box5 X h v0 v1 v2 v3 v4 ∧ (1 ≤ k → EmpV (h + 1) m (.agg #[v0, v1, v2, v3, v4]) X) ∧ Turns (fun k => k = h) W X
theorem EmpS.lo {h m k : Nat} {W X : World} (s : EmpS h m W k X) : Turns (fun k => k = h) W X := by
 obtain ⟨_, _, _, _, _, _, _, t⟩ := s
 exact t
theorem EmpS.below {h m k : Nat} {W X Y : World} (s : EmpS h m W k X) (hb : Below X.heap.size X Y) : EmpS h m W k Y := by
 obtain ⟨v0, v1, v2, v3, v4, b, f, t⟩ := s
 exact ⟨v0, v1, v2, v3, v4, b.below hb, fun hk => (f hk).turns (P := fun _ => False) (Turns.of_below hb) (fun _ => False.elim), t.tr hb⟩
theorem EmpS.put {h m k : Nat} {W X : World} {a1 : Option Addr} {c1 : Nat} {a2 : Option Addr} {c2 g : Nat} (s : EmpS h m W k X)
  (hv : OwnT (h + 1) X a1 c1 (freshL m) ∧ OwnT (h + 1) X a2 c2 (freshL m) ∧ IsS X (some ⟨g, 0, none⟩) m (List.replicate m ⟨#[]⟩) ∧ h + 1 ≤ g ∧ g < X.heap.size) :
  EmpS h m W (k + 1) (set5 X h (.slice a1 m c1) (.slice a2 m c2) (.slice (some ⟨g, 0, none⟩) m m) (.int .i64 0) (.int .i64 1)) := by
 obtain ⟨v0, v1, v2, v3, v4, b, f, t⟩ := s
 have t2 : Turns (fun k => k = h) X (set5 X h (.slice a1 m c1) (.slice a2 m c2) (.slice (some ⟨g, 0, none⟩) m m) (.int .i64 0) (.int .i64 1)) := set5_turns (P := fun k => k = h) (Turns.refl _ _) rfl _ _ _ _ _
 have e : EmpV (h + 1) m (.agg #[.slice a1 m c1, .slice a2 m c2, .slice (some ⟨g, 0, none⟩) m m, .int .i64 0, .int .i64 1]) X := ⟨a1, c1, a2, c2, g, rfl, hv⟩
 obtain ⟨bx, f0, f1, f2, f3, f4⟩ := b
 refine ⟨_, _, _, _, _, ⟨set5_box bx _ _ _ _ _, ?_, ?_, ?_, ?_, ?_⟩, fun _ => e.turns t2 (fun i hi => by omega), t.trans t2⟩
 ·
  unfold set5; simpa using f0
 ·
  unfold set5; simpa using f1
 ·
  unfold set5; simpa using f2
 ·
  unfold set5; simpa using f3
 ·
  unfold set5; simpa using f4
theorem isS_made (W : World) (n g : Nat) (Z : Array Value) (hZ : Z = (List.replicate n (Value.string ⟨#[]⟩)).toArray) (hn : n ≤ maxLen) (hg : g = W.heap.size) : IsS (W.alloc (.cells Z 9)) (some ⟨g, 0, none⟩) n (List.replicate n ⟨#[]⟩) := by
 subst hg hZ
 refine ⟨by simp, hn, fun j x hx => ?_⟩
 obtain ⟨hj, hx'⟩ := List.getElem?_eq_some_iff.1 hx
 have hx2 : x = ⟨#[]⟩ := by rw [List.getElem_replicate] at hx'; exact hx'.symm
 subst hx2
 simp at hj
 have hc : (W.alloc (.cells (List.replicate n (Value.string ⟨#[]⟩)).toArray 9)).cell? ⟨W.heap.size, j, none⟩ = some (.string ⟨#[]⟩) := (World.cell?_alloc_at _ _ _ _ rfl).trans (show (List.replicate n (Value.string ⟨#[]⟩)).toArray[j]? = some (.string ⟨#[]⟩) by simp [hj])
 exact ⟨W.heap.size, 0, rfl, by simp, by rw [Nat.zero_add]; exact hc, Nat.zero_le _⟩
def EmptyC (w : World) (e : Ending) (w' : World) (m : Nat) : Prop :=
 ∃ a1 c1 a2 c2 b3 c3, e = .returned (.agg #[.slice a1 m c1, .slice a2 m c2, .slice b3 m c3, .int .i64 0, .int .i64 1]) ∧ (IsB w' a1 c1 (freshL m) ∧ IsB w' a2 c2 (freshL m) ∧ IsS w' b3 c3 (List.replicate m ⟨#[]⟩)) ∧ Below w.heap.size w w'
set_option maxRecDepth 20000 in
set_option maxHeartbeats 4000000 in
theorem empty_any (n : Int) (w : World) (hwf : IntKind.i64.wrap n = n) :
  Calls Tryz.prog 23 #[.int .i64 n] w fun e w' => EmptyC w e w' (emptyM n) := by
 obtain ⟨h24, h200, hm⟩ := emptyM_in n
 generalize emptyM n = m at *
 have r1 := max_run (x := n) (y := 24) rfl
 have r2 := min_run hm.symm
 have wm : IntKind.i64.wrap (m : Int) = (m : Int) := i64_in _ (by omega) (by omega)
 obtain ⟨W, hW⟩ : ∃ W, W = w.alloc (.cells #[.slice none 0 0, .slice none 0 0, .slice none 0 0, .int .i64 0, .int .i64 0] 27) := ⟨_, rfl⟩
 have BO : Box5 W w.heap.size (.slice none 0 0) (.slice none 0 0) (.slice none 0 0) (.int .i64 0) (.int .i64 0) := by rw [hW]; exact box5_new _ _ _ _ _ _ _ (by simp)
 have HB : Below w.heap.size w W := by rw [hW]; exact (Below.refl _ _).alloc (Nat.le_refl _) _
 have hWs : W.heap.size = w.heap.size + 1 := by rw [hW]; simp
 obtain ⟨V0, hV0⟩ : ∃ X, X = W.drew := ⟨_, rfl⟩
 have hD0 : Below W.heap.size W V0 := by rw [hV0]; exact (Below.refl _ _).drew
 have hVs : V0.heap.size = w.heap.size + 1 := by rw [hV0]; exact hWs
 have hBV := Below.tr HB hD0
 obtain ⟨Z, hmk, hZ⟩ : ∃ Z : Array Value, (∀ W : World, (Instr.makeSlice 25 (.int .i64 m) (.int .i64 m)).run Tryz.prog W = .ok (.slice (some ⟨W.heap.size, 0, none⟩) m m) (W.alloc (.cells Z 9))) ∧ Hid (Z = (List.replicate m (Value.string ⟨#[]⟩)).toArray) :=
  ⟨madeCells #[.string ⟨#[]⟩] m, fun W => run_make_row' (P := Tryz.prog) 25 9 (.string ⟨#[]⟩) 16 Tryz.underlying25 Tryz.info9 rfl .i64 .i64 m (by omega) (by omega) W, made_one _ m⟩
 have cM : ∀ X : World, V0.heap.size ≤ X.heap.size → empVal (w.heap.size + 1) m 3 (.slice (some ⟨X.heap.size, 0, none⟩) m m) (X.alloc (.cells Z 9)) := fun X hX => ⟨X.heap.size, rfl, isS_made X m _ Z hZ.out (by unfold maxLen; omega) rfl, by omega, by simp⟩
 have cN : ∀ X, V0.heap.size ≤ X.heap.size → Calls Tryz.prog 35 #[.int .i64 m] X fun e w' => ∃ v, e = .returned v ∧ empVal (w.heap.size + 1) m 1 v w' ∧ Below X.heap.size X w' := fun X hX =>
  (allocRefNewF_any m X (by omega)).mono fun e w' hx => by
   obtain ⟨a1, c1, a2, c2, rfl, o1, o2, hb⟩ := hx
   exact ⟨_, rfl, ⟨a1, c1, a2, c2, rfl, o1.mono (by omega), o2.mono (by omega)⟩, hb⟩
 have S0 : EmpS w.heap.size m V0 0 V0 := ⟨_, _, _, _, _, BO.below hD0, fun h => by omega, Turns.refl _ _⟩
 clear hm hWs
 go_enter Tryz.func23, Tryz.ntmps23
 go_wp2
 rw [← hW]
 refine region_chain (by kernel_rfl) [5] (empVal (w.heap.size + 1) m) (EmpS w.heap.size m V0) (Turns (fun k => k = w.heap.size)) (by kernel_rfl) (by kernel_rfl) ?mono (by rw [← hV0]; exact S0) ?step 6 rfl ?done
 case mono =>
  intro i v X Y t hv
  unfold empVal at hv ⊢
  split at hv
  ·
   exact hv
  ·
   exact hv
  ·
   obtain ⟨a1, c1, a2, c2, e, o1, o2⟩ := hv
   exact ⟨a1, c1, a2, c2, e, o1.turns t (fun i e => by omega), o2.turns t (fun i e => by omega)⟩
  ·
   obtain ⟨g, e, i3, hg, gl⟩ := hv
   exact ⟨g, e, i3.turns t (fun x hx k => by cases hx; simp only at k; omega), hg, Nat.lt_of_lt_of_le gl t.size⟩
  ·
   exact EmpV.turns hv t (fun i e => by omega)
  ·
   trivial
 case step =>
  clear hW hV0 hD0 hBV S0 BO HB hVs
  intro i oo ho k a9 X hk6 hmay hS hdf hsz hdep hsame
  match i, ho with
  | 0, ho =>
   cases ho
   have h0 := hsame 0 rfl
   exact op_value rfl (wanted_free rfl) (by clear hdep hsame hsz hdf; go_simp) rfl (by rw [if_neg (by decide)]; exact hS) (Turns.refl _ _)
  | 1, ho =>
   cases ho
   obtain ⟨_, h6, rfl⟩ := hdep 0 _ 6 rfl rfl rfl
   exact op_call rfl (wanted_free rfl) (by clear hdep hsame hsz hdf; go_simp) ((cN X (hS.lo.size)).mono fun e X' hx => by
    obtain ⟨v, he, hv, hb⟩ := hx
    exact ⟨v, he, hv, by rw [if_neg (by decide)]; exact hS.below hb, Turns.of_below hb⟩)
  | 2, ho =>
   cases ho
   have h0 := hsame 0 rfl
   exact op_value rfl (wanted_free rfl) (by clear hdep hsame hsz hdf; go_simp) rfl (by rw [if_neg (by decide)]; exact hS) (Turns.refl _ _)
  | 3, ho =>
   cases ho
   obtain ⟨_, h8, rfl⟩ := hdep 2 _ 8 rfl rfl rfl
   have hA := (Below.refl X.heap.size X).alloc (Nat.le_refl _) (.cells Z 9)
   have hx := hmk X
   exact op_value (w' := X.alloc (.cells Z 9)) rfl (wanted_free rfl) (by clear hdep hsame hsz hdf; go_simp) (cM X hS.lo.size) (by rw [if_neg (by decide)]; exact hS.below hA) (Turns.of_below hA)
  | 4, ho =>
   cases ho
   obtain ⟨_, h7, ⟨a1, c1, a2, c2, rfl, o1, o2⟩⟩ := hdep 1 _ 7 rfl rfl rfl
   obtain ⟨_, h9, ⟨g, rfl, i3, hg, gl⟩⟩ := hdep 3 _ 9 rfl rfl rfl
   exact op_value rfl (wanted_free rfl) (by clear hdep hsame hsz hdf; go_simp) ⟨a1, c1, a2, c2, g, rfl, o1, o2, i3, hg, gl⟩ (by rw [if_neg (by decide)]; exact hS) (Turns.refl _ _)
  | 5, ho =>
   cases ho
   have h2 := hsame 2 rfl
   obtain ⟨_, h10, ⟨a1, c1, a2, c2, g, rfl, oo⟩⟩ := hdep 4 _ 10 rfl rfl rfl
   have hS2 := hS.put oo
   obtain ⟨v0, v1, v2, v3, v4, bx, -, tt⟩ := id hS
   obtain ⟨⟨x0, x1, x2, x3, x4⟩, f0, f1, f2, f3, f4⟩ := bx
   have hT : Turns (fun k => k = w.heap.size) X (set5 X w.heap.size (.slice a1 m c1) (.slice a2 m c2) (.slice (some ⟨g, 0, none⟩) m m) (.int .i64 0) (.int .i64 1)) := set5_turns (P := fun k => k = w.heap.size) (Turns.refl _ _) rfl _ _ _ _ _
   unfold set5 at hT hS2
   exact op_skip (w' := ((((X.setCell ⟨w.heap.size, 0, none⟩ (.slice a1 m c1)).setCell ⟨w.heap.size, 1, none⟩ (.slice a2 m c2)).setCell ⟨w.heap.size, 2, none⟩ (.slice (some ⟨g, 0, none⟩) m m)).setCell ⟨w.heap.size, 3, none⟩ (.int .i64 0)).setCell ⟨w.heap.size, 4, none⟩ (.int .i64 1)) rfl (wanted_free rfl) rfl (by clear hdep hsame hsz hdf hS2 hT; go_simp) trivial (by rw [if_pos (by decide)]; exact hS2) hT
  | k + 6, ho => simp at ho
 case done =>
  intro val X hS hV
  clear hV cN cM S0 BO
  obtain ⟨v0, v1, v2, v3, v4, bx, ev, tt⟩ := hS
  obtain ⟨a1, c1, a2, c2, g, e, o1, o2, i3, hg, gl⟩ := ev (by decide)
  have HL : Hid (Below w.heap.size w X) := Below.turns hBV tt fun i e => by omega
  have HE : Hid (EmptyC w (.returned (.agg #[v0, v1, v2, v3, v4])) X m) := ⟨a1, c1, a2, c2, _, _, by rw [e], ⟨o1.isB, o2.isB, i3⟩, HL.out⟩
  obtain ⟨⟨x0, x1, x2, x3, x4⟩, -⟩ := bx
  clear ev e o1 o2 i3 hg gl tt
  simp [filledN]
  go_wp2
  refine bodyPost_ret (v := .agg #[v0, v1, v2, v3, v4]) (by simp [results, Tryz.results23, go_sem, x0, x1, x2, x3, x4]) rfl HE.out
theorem alive_plain : (allR (emptyG 24) [(⟨#[97]⟩, ⟨#[49]⟩)]).1 = 0 ∧ (allR (emptyG 24) [(⟨#[97]⟩, ⟨#[49]⟩)]).2.root = 10 ∧ (allR (emptyG 24) [(⟨#[97]⟩, ⟨#[49]⟩)]).2.pages.length = 24 := by decide +kernel
end Go.Proofs.YtaecfbfcjaailaaGreat
namespace Go.Proofs.YtaecfbfcjaailaaGreat
open Go.RowKit Plain
set_option linter.unusedVariables false
set_option maxRecDepth 20000 in
theorem small09_any (a a' b : Option Addr) (n c n' c' p f : Nat) (root gen : Int) (w : World) (hn : n' ≤ 9223372036854775807) (hp : p ≤ 9223372036854775807) :
  Calls Tryz.prog 9 #[.agg #[.slice a n c, .slice a' n' c', .slice b p f, .int .i64 root, .int .i64 gen]] w fun e w' => e = .returned (.bool (decide (n' ≤ 300) && decide (p ≤ 300))) ∧ Below w.heap.size w w' := by
 have HB : Below w.heap.size w (w.alloc (.cells #[.slice a n c, .slice a' n' c', .slice b p f, .int .i64 root, .int .i64 gen] 27)) := (Below.refl _ _).alloc (Nat.le_refl _) _
 obtain ⟨r, hr⟩ : ∃ r, r = (decide (n' ≤ 300) && decide (p ≤ 300)) := ⟨_, rfl⟩
 rw [← hr]
 by_cases h1 : n' ≤ 300
 ·
  have h1' : (n' : Int) ≤ 300 := by omega
  have hr' : Hid (r = decide ((p : Int) ≤ 300)) := by
   show _ = _
   rw [hr, decide_eq_true h1, Bool.true_and]
   exact decide_eq_decide.2 (by omega)
  clear hr h1
  go_enter Tryz.func9, Tryz.ntmps9
  go_wp2
  go_ret
  exact ⟨by rw [hr'.out]; rfl, HB⟩
 ·
  have h1' : ¬ (n' : Int) ≤ 300 := by omega
  have hr' : r = false := by rw [hr, decide_eq_false h1]; rfl
  clear hr h1
  go_enter Tryz.func9, Tryz.ntmps9
  go_wp2
  go_ret
  exact ⟨rfl, HB⟩
set_option maxRecDepth 20000 in
theorem isPair_any (key val : ByteArray) (w : World) (mk : key.size ≤ maxLen) (mv : val.size ≤ maxLen) :
  Calls Tryz.prog 13 #[.string key, .string val] w fun e w' => e = .returned (.bool (isPairB key val)) ∧ Below w.heap.size w w' := by
 have mki : key.size ≤ 9223372036854775807 := mk
 have mvi : val.size ≤ 9223372036854775807 := mv
 have HB : Below w.heap.size w w := Below.refl _ _
 obtain ⟨r, hr⟩ : ∃ r, r = isPairB key val := ⟨_, rfl⟩
 rw [← hr]
 by_cases h1 : 1 ≤ key.size
 ·
  have h1' : (1 : Int) ≤ key.size := by omega
  by_cases h2 : key.size ≤ 32
  ·
   have h2' : (key.size : Int) ≤ 32 := by omega
   have hr' : Hid (r = decide ((val.size : Int) ≤ 200)) := by
    show _ = _
    rw [hr, Bool.eq_iff_iff, isPairB_iff, decide_eq_true_eq]
    exact ⟨fun h => by have := h.2; omega, fun h => ⟨⟨h1, h2⟩, by omega⟩⟩
   clear hr h1 h2
   go_enter Tryz.func13, Tryz.ntmps13
   go_wp2
   go_ret
   exact ⟨by rw [hr'.out]; rfl, HB⟩
  ·
   have h2' : ¬ (key.size : Int) ≤ 32 := by omega
   obtain rfl : r = false := by rw [hr, ← Bool.not_eq_true, isPairB_iff]; intro h; have h3 := h.1.1; have h4 := h.1.2; omega
   clear hr h1 h2
   go_enter Tryz.func13, Tryz.ntmps13
   go_wp2
   go_ret
   exact ⟨rfl, HB⟩
 ·
  have h1' : ¬ (1 : Int) ≤ key.size := by omega
  obtain rfl : r = false := by rw [hr, ← Bool.not_eq_true, isPairB_iff]; intro h; have h3 := h.1.1; have h4 := h.1.2; omega
  clear hr h1
  go_enter Tryz.func13, Tryz.ntmps13
  go_wp2
  go_ret
  exact ⟨rfl, HB⟩
set_option maxRecDepth 20000 in
set_option maxHeartbeats 2000000 in
theorem alive09_any (w : World) : Calls Tryz.prog 10 #[] w fun e w' => e = .returned (.bool true) ∧ Below w.heap.size w w' := by
 have cE : Calls Tryz.prog 23 #[.int .i64 24] w fun e w' => EmptyC w e w' 24 := empty_any 24 w rfl
 have cP : ∀ V (a1 : Option Addr) (c1 : Nat) (a2 : Option Addr) (c2 : Nat) (b3 : Option Addr) (c3 : Nat), IsB V a1 c1 (freshL 24) → IsB V a2 c2 (freshL 24) → IsS V b3 c3 (List.replicate 24 ⟨#[]⟩) → Calls Tryz.prog 11 #[.agg #[.slice a1 24 c1, .slice a2 24 c2, .slice b3 24 c3, .int .i64 0, .int .i64 1], .string ⟨#[97]⟩, .string ⟨#[49]⟩] V fun e w' => AllC V e w' (allR (emptyG 24) [(⟨#[97]⟩, ⟨#[49]⟩)]) := fun V a1 c1 a2 c2 b3 c3 i1 i2 i3 =>
  growPut1_any a1 a2 b3 c1 c2 c3 (emptyG 24) ⟨#[97]⟩ ⟨#[49]⟩ V i1 i2 i3 (by decide) (by decide)
 obtain ⟨r1, r2, r3⟩ := alive_plain
 generalize allR (emptyG 24) [(⟨#[97]⟩, ⟨#[49]⟩)] = R at *
 obtain ⟨rE, ⟨rb, rn, rp, rr, rg⟩⟩ := R
 simp only at r1 r2 r3
 subst r1 r2
 have HR3 : Hid (rp.length = 24) := r3
 clear r3
 go_enter Tryz.func10, Tryz.ntmps10
 go_wp2_with (first
  | (go_at_call 23; refine cE.mono ?_; rintro y w1 ⟨a1, c1, a2, c2, b3, c3, rfl, ⟨i1, i2, i3⟩, HB⟩)
  | (go_at_call 11; refine (cP _ _ _ _ _ _ _ i1 i2 i3).mono ?_; rintro y w2 ⟨d1, k1, d2, k2, d3, k3, rfl, -, -, hb⟩; replace HB := (Below.tr HB hb).alloc (Below.tr HB hb).size (.cells #[.slice d1 rb.length k1, .slice d2 rn.length k2, .slice d3 24 k3, .int .i64 10, .int .i64 rg] 27); rw [HR3.out]; clear hb i1 i2 i3; obtain ⟨x0, x1, x2, x3, x4⟩ := woodBox_new w2 (.slice d1 rb.length k1) (.slice d2 rn.length k2) (.slice d3 24 k3) (.int .i64 10) (.int .i64 rg) 27 rfl))
 go_ret
 exact ⟨rfl, HB⟩
end Go.Proofs.YtaecfbfcjaailaaGreat
namespace Go.Proofs.YtaecfbfcjaailaaGreat
open Go.RowKit Plain Go.ChangeShapes Go.WideShapes
set_option linter.unusedVariables false
theorem array5 {α : Type} {cs : Array α} (h : cs.size = 5) : ∃ c0 c1 c2 c3 c4, cs = #[c0, c1, c2, c3, c4] := by
 rcases cs with ⟨l⟩
 match l, h with
 | [c0, c1, c2, c3, c4], _ => exact ⟨c0, c1, c2, c3, c4, rfl⟩
set_option maxRecDepth 20000 in
theorem open_wood {H : Type} {enc : TypeId × Value → H} {w : World} {r : Reach} {b0 : Nat} {v : Value} {d : DataW H} {p : List MemPlace}
  (hv : Value.okWide Tryz.prog w r b0 27 v) (h : DataW.Trod enc Tryz.prog w 0 (fun _ => true) true 27 v d p) :
  ∃ a c bs a' c' ns b f ps root gen, v = .agg #[.slice a bs.length c, .slice a' ns.length c', .slice b ps.length f, .int .i64 root, .int .i64 gen] ∧ IsB w a c bs ∧ IsB w a' c' ns ∧ IsS w b f ps ∧ (Lit.int .i64 root).wf = true ∧ (Lit.int .i64 gen).wf = true := by
 obtain ⟨cs, rfl, hsz⟩ := okWide_struct Tryz.underlying27 hv
 obtain ⟨c0, c1, c2, c3, c4, rfl⟩ := array5 (hsz.trans (by kernel_rfl))
 obtain ⟨fuel, hf⟩ := h
 obtain ⟨y0, y1, y2, y3, n, hx, _, h0, h1, h2, h3⟩ := Joins.trod_struct4 Tryz.underlying27 hf
 have s0 : Tryz.prog.cellsOf 24 = 2 := by kernel_rfl
 have s1 : Tryz.prog.cellsOf 25 = 1 := by kernel_rfl
 have s2 : Tryz.prog.cellsOf 3 = 1 := by kernel_rfl
 have s3 : Tryz.prog.cellsOf 22 = 1 := by kernel_rfl
 simp only [Value.cells, s0, s1, s2, List.drop_zero, List.drop_succ_cons, List.take_succ_cons, List.take_zero] at h0 h1 h2 h3
 obtain ⟨z0, z1, m, _, _, g0, g1⟩ := trod_struct2 Tryz.underlying24 h0
 simp only [s3, List.drop_zero, List.drop_succ_cons, List.take_succ_cons, List.take_zero] at g0 g1
 obtain ⟨a, c, bs, rfl, hB⟩ := open_B g0
 obtain ⟨a', c', ns, rfl, hB'⟩ := open_B g1
 obtain ⟨b, f, ps, rfl, hP⟩ := open_S h1
 obtain ⟨root, hr, _, wr⟩ := DataW.trod_int (k := .i64) Tryz.underlying3 h2
 obtain ⟨gen, hg, _, wg⟩ := DataW.trod_int (k := .i64) Tryz.underlying3 h3
 simp at hr hg
 subst hr hg
 exact ⟨a, c, bs, a', c', ns, b, f, ps, root, gen, rfl, hB, hB', hP, wr, wg⟩
end Go.Proofs.YtaecfbfcjaailaaGreat
namespace Go.Proofs.YtaecfbfcjaailaaGreat
open Go.RowKit Plain
set_option linter.unusedVariables false
def WoodL (V : World) (a : Option Addr) (n c : Nat) (a' : Option Addr) (n' c' : Nat) (b : Option Addr) (p f : Nat) (G : WoodS) : Prop :=
 n = G.base.length ∧ n' = G.now.length ∧ p = G.pages.length ∧ IsB V a c G.base ∧ IsB V a' c' G.now ∧ IsS V b f G.pages
section
variable {V V' : World} {a : Option Addr} {n c : Nat} {a' : Option Addr} {n' c' : Nat} {b : Option Addr} {p f : Nat} {G : WoodS}
theorem WoodL.below (x : WoodL V a n c a' n' c' b p f G) (hb : Below V.heap.size V V') : WoodL V' a n c a' n' c' b p f G :=
 ⟨x.1, x.2.1, x.2.2.1, x.2.2.2.1.below hb, x.2.2.2.2.1.below hb, x.2.2.2.2.2.below hb⟩
theorem WoodL.small (x : WoodL V a n c a' n' c' b p f G) : Calls Tryz.prog 9 #[.agg #[.slice a n c, .slice a' n' c', .slice b p f, .int .i64 G.root, .int .i64 G.gen]] V fun e w' => e = .returned (.bool (decide (n' ≤ 300) && decide (p ≤ 300))) ∧ Below V.heap.size V w' :=
 small09_any a a' b n c n' c' p f G.root G.gen V (by rw [x.2.1]; exact Nat.le_trans x.2.2.2.2.1.1 x.2.2.2.2.1.2.1) (by rw [x.2.2.1]; exact Nat.le_trans x.2.2.2.2.2.1 x.2.2.2.2.2.2.1)
theorem WoodL.right (x : WoodL V a n c a' n' c' b p f G) : Calls Tryz.prog 12 #[.agg #[.slice a n c, .slice a' n' c', .slice b p f, .int .i64 G.root, .int .i64 G.gen]] V fun e w' => e = .returned (.bool G.right) ∧ Below V.heap.size V w' :=
 refRightW_any a a' b n c n' c' p f G.base G.now G.pages G.root G.gen V x.1 x.2.1 x.2.2.1 x.2.2.2.1 x.2.2.2.2.1 x.2.2.2.2.2
def TreeC (V : World) (y : Ending) (w' : World) (t : TreeS) : Prop :=
 ∃ q d r k, y = .returned (.pointer (some ⟨V.heap.size + 1, 0, none⟩)) ∧ Box4 w' (V.heap.size + 1) (.slice q t.pairs.length d) (.slice r t.blocks.length k) (.int .i64 t.height) (.bool t.bad) ∧ (IsQ w' q d t.pairs ∧ IsI w' r k t.blocks) ∧ Below V.heap.size V w'
theorem WoodL.tree (x : WoodL V a n c a' n' c' b p f G) : Calls Tryz.prog 15 #[.agg #[.slice a n c, .slice a' n' c', .slice b p f, .int .i64 G.root, .int .i64 G.gen]] V fun y w' => TreeC V y w' G.tree := by
 refine (tree_any a a' b n c n' c' p f G.now G.pages G.root G.gen V x.2.1 x.2.2.1 x.2.2.2.2.1 x.2.2.2.2.2).mono ?_
 rintro y w' ⟨u1, u2, rfl, T, hb⟩
 obtain ⟨q, d, rfl, hQ, -⟩ := owned_isQ T.r1 rfl tree_sized
 obtain ⟨r, k, rfl, hI⟩ : ∃ r k, u2 = .slice r (treeS G.now G.pages G.root G.gen).blocks.length k ∧ IsI w' r k (treeS G.now G.pages G.root G.gen).blocks := by
  rcases T.r2.2 with ⟨e, hz⟩ | ⟨g, cap, cur, e, hg, hcur, hnc, hcm, hsz, htk⟩
  ·
   refine ⟨none, 0, ?_, ?_⟩
   ·
    rw [hz]; exact e
   ·
    rw [List.length_eq_zero_iff.1 hz]; exact isI_nil _
  ·
   refine ⟨some ⟨g, 0, none⟩, cap, e, hnc, hcm, fun j z hz => ⟨g, 0, rfl, (T.r2.lt g (by rw [e]; rfl)).2, ?_⟩⟩
   have := T.r2.cells (g := g) (by rw [e]; rfl) j (.int .i64 z) (by simp [hz])
   rw [at_add] at this
   exact this
 exact ⟨q, d, r, k, rfl, T.box, ⟨hQ, hI⟩, hb⟩
def PutC (w : World) (e : Ending) (w' : World) (R : Int × WoodS) : Prop :=
 ∃ b1 m1 c1 b2 m2 c2 b3 m3 c3, e = .returned (.tuple #[.agg #[.slice b1 m1 c1, .slice b2 m2 c2, .slice b3 m3 c3, .int .i64 R.2.root, .int .i64 R.2.gen], .int .i64 R.1]) ∧ WoodL w' b1 m1 c1 b2 m2 c2 b3 m3 c3 R.2 ∧ Below w.heap.size w w'
theorem AllC.letters {w w' : World} {e : Ending} {R : Int × WoodS} (h : AllC w e w' R) : PutC w e w' R := by
 obtain ⟨a1, c1, a2, c2, b3, c3, rfl, ⟨i1, i2, i3⟩, -, hb⟩ := h
 exact ⟨a1, _, c1, a2, _, c2, b3, _, c3, rfl, ⟨rfl, rfl, rfl, i1, i2, i3⟩, hb⟩
theorem WoodL.put (x : WoodL V a n c a' n' c' b p f G) (key val : ByteArray) (mk : key.size ≤ maxLen) (mv : val.size ≤ maxLen) : Calls Tryz.prog 11 #[.agg #[.slice a n c, .slice a' n' c', .slice b p f, .int .i64 G.root, .int .i64 G.gen], .string key, .string val] V fun e w' => PutC V e w' (allR G [(key, val)]) := by
 obtain ⟨rfl, rfl, rfl, hB, hB', hP⟩ := x
 exact (growPut1_any a a' b c c' f G key val V hB hB' hP mk mv).mono fun e w' h => h.letters
theorem WoodL.all (x : WoodL V a n c a' n' c' b p f G) {d : Option Addr} {k dc : Nat} {ps : List (ByteArray × ByteArray)} (hk : k = ps.length) (hQ : IsQ V d dc ps) : Calls Tryz.prog 21 #[.agg #[.slice a n c, .slice a' n' c', .slice b p f, .int .i64 G.root, .int .i64 G.gen], .slice d k dc] V fun e w' => PutC V e w' (allR G ps) := by
 obtain ⟨rfl, rfl, rfl, hB, hB', hP⟩ := x
 exact (growAll_any a a' b d c c' f k dc G ps V hk hB hB' hP hQ).mono fun e w' h => h.letters
end
def WoodS.only (G : WoodS) : Prop := ∀ b, G.has b ↔ (0 ≤ b ∧ b < 10) ∨ b ∈ G.tree.blocks
theorem tree_blocks {G : WoodS} (hb : G.tree.bad = false) : G.tree.blocks.Nodup ∧ ∀ b ∈ G.tree.blocks, G.has b ∧ 10 ≤ b ∧ b < G.now.length := by
 by_cases hr : G.root = 0
 ·
  have e : G.tree = TreeS.none := by unfold WoodS.tree treeS; rw [if_pos hr]
  rw [e]
  exact ⟨List.nodup_nil, fun b h => by simp [TreeS.none] at h⟩
 ·
  obtain ⟨ht, Q, B, h1, h8, hT, hn, e⟩ := root_tree hr hb
  rw [e]
  exact ⟨hn, tree_has hT⟩
theorem tree_count {G : WoodS} (hr : G.right = true) : G.tree.pairs.length ≤ 18432 := by
 have hs : Sound G.now.length G.tree := by
  unfold WoodS.tree treeS
  split
  ·
   exact sound_none _
  ·
   refine sound_below (fun b r nd hh => ?_) 8 TreeS.none G.root ⟨#[]⟩ ⟨#[]⟩ (sound_none _)
   have h9 := (holds_len b r nd hh).1
   unfold holdsS at hh
   split at hh
   ·
    rename_i hc; exact ⟨⟨by omega, hc.2.1⟩, h9⟩
   ·
    cases hh
 have h1 := nodup_le _ _ hs.1 hs.2.1
 have h2 := hs.2.2
 have h3 := ((rightA_iff _ _).1 (right_ok.1 hr).1.alloc).2.2.1
 omega
theorem free_told {G : WoodS} (hr : G.right = true) : freeC G.base G.now = G.free := by
 unfold freeC WoodS.free
 rw [if_pos (right_ok.1 hr).1.alloc]
end Go.Proofs.YtaecfbfcjaailaaGreat

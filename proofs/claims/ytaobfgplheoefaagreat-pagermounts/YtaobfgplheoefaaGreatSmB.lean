/-
  Texts laid together: LookHolds LookRef PagerPlain RingRef RingScan PagerAlive CheckBl GrowRefIn CheckRef CheckRefC PagerRefWoodB DevRight PagerRefMount PagerLike DevOpen.
-/
import Derived.Test.YtaobfgplheoefaaGreatSmA
import Derived.Test.YtaobfgplheoefaaGreatSfD
import Derived.WalkMore
import Derived.Lib.AppendZeros
import Derived.Lib.SmallJoins
import Derived.Deep.SlicePairs
namespace Go.Proofs.YtaobfgplheoefaaGreat
namespace Plain
end Plain
open Go.RowKit Plain
set_option linter.unusedVariables false
def HoldsC (w : World) (x : Ending) (w' : World) : Option NodeS → Prop
 | none => x = .returned (.tuple #[.agg #[.bool false, .slice none 0 0, .slice none 0 0, .slice none 0 0], .bool false]) ∧ Below w.heap.size w w'
 | some nd => ∃ k1 a1 d1 k2 a2 d2 k3 a3 d3, x = .returned (.tuple #[.agg #[.bool nd.1, .slice a1 k1 d1, .slice a2 k2 d2, .slice a3 k3 d3], .bool true]) ∧ k1 = nd.2.1.length ∧ k2 = nd.2.2.1.length ∧ k3 = nd.2.2.2.length ∧ IsS w' a1 d1 nd.2.1 ∧ IsS w' a2 d2 nd.2.2.1 ∧ IsI w' a3 d3 nd.2.2.2 ∧ From w.heap.size a1 ∧ From w.heap.size a2 ∧ From w.heap.size a3 ∧ Below w.heap.size w w'
set_option maxRecDepth 20000 in
set_option maxHeartbeats 4000000 in
theorem holds_any (a a' b : Option Addr) (n c n' c' p f : Nat) (ns : List Bool) (ps : List ByteArray) (root gen block : Int) (rt : Bool) (w : World) (hn' : n' = ns.length) (hp : p = ps.length) (hB' : IsB w a' c' ns) (hP : IsS w b f ps) :
  Calls Tryz.prog 162 #[.agg #[.slice a n c, .slice a' n' c', .slice b p f, .int .i64 root, .int .i64 gen], .int .i64 block, .bool rt] w fun x w' => HoldsC w x w' (holdsS ns ps gen block rt) := by
 obtain ⟨W, hW⟩ : ∃ W, W = (w.alloc (.cells #[.slice a n c, .slice a' n' c', .slice b p f, .int .i64 root, .int .i64 gen] 40)).alloc (.cells #[.bool false, .slice none 0 0, .slice none 0 0, .slice none 0 0] 205) := ⟨_, rfl⟩
 have BW : WoodBox W w.heap.size (.slice a n c) (.slice a' n' c') (.slice b p f) (.int .i64 root) (.int .i64 gen) := by rw [hW]; exact (woodBox_new _ _ _ _ _ _ _ rfl).below ((Below.refl _ _).alloc (Nat.le_refl _) _)
 have BR : Box4 W (w.heap.size + 1) (.bool false) (.slice none 0 0) (.slice none 0 0) (.slice none 0 0) := by rw [hW]; exact box4_new _ _ _ _ _ _ (by simp)
 have HB : Below w.heap.size w W := by rw [hW]; exact ((Below.refl _ _).alloc (Nat.le_refl _) _).alloc (by simp) _
 have hle : w.heap.size ≤ w.heap.size + 1 := by omega
 have mn : n' ≤ 9223372036854775807 := by rw [hn']; exact Nat.le_trans hB'.1 hB'.2.1
 have mp : p ≤ 9223372036854775807 := by rw [hp]; exact Nat.le_trans hP.1 hP.2.1
 obtain ⟨O, hO'⟩ : ∃ O, O = holdsS ns ps gen block rt := ⟨_, rfl⟩
 rw [← hO']
 obtain ⟨⟨r0, r1, r2, r3⟩, f0, f1, f2, f3⟩ := id (hW ▸ BR)
 obtain ⟨x0, x1, x2, x3, x4⟩ := id (hW ▸ BW)
 by_cases hin : 10 ≤ block ∧ block < ns.length ∧ block < ps.length ∧ ns.getD block.toNat false = true
 ·
  have hO1 : O = pageN (ps.getD block.toNat ⟨#[]⟩) gen rt := by rw [hO']; unfold holdsS; rw [if_pos hin]
  obtain ⟨h10, hl1, hl2, hnow⟩ := hin
  obtain ⟨i, rfl⟩ : ∃ i : Nat, block = i := ⟨block.toNat, by omega⟩
  simp only [Int.toNat_natCast] at hnow hO1
  have hi1 : i < ns.length := by omega
  have hi2 : i < ps.length := by omega
  have hgn : ns[i]? = some true := by rw [List.getD_eq_getElem?_getD, List.getElem?_eq_getElem hi1] at hnow; rw [List.getElem?_eq_getElem hi1]; exact congrArg some hnow
  obtain ⟨s, hs⟩ : ∃ s, ps[i]? = some s := ⟨_, List.getElem?_eq_getElem hi2⟩
  rw [List.getD_eq_getElem?_getD, hs] at hO1
  obtain ⟨b1, o1, rfl, hlb1, hc1⟩ := hB'.2.2 i true hgn
  obtain ⟨b2, o2, rfl, hlb2, hc2, hss⟩ := hP.2.2 i s hs
  have z1 := cell_below HB hc1
  have z2 := cell_below HB hc2
  rw [hW] at z1 z2
  have k1 : ¬ (i : Int) < 10 := by omega
  have k2 : ¬ (n' : Int) ≤ i := by omega
  have k3 : ¬ (p : Int) ≤ i := by omega
  have k4 : (i : Int) < n' := by omega
  have k5 : (i : Int) < p := by omega
  have cP := fun V => refPageGet_any s V hss
  have hrBs : (readB s).size ≤ maxLen := Nat.le_trans (readB_few s) (by unfold maxLen; omega)
  have cG := fun V => refNodeGet_any (readK s) (readB s) V hrBs
  have hO : O = pageN s gen rt := hO1
  unfold pageN at hO
  clear hO1 hO' hn' hp hB' hP h10 hl1 hl2 hnow hi1 hi2 hgn hs hlb1 hlb2 hc1 hc2 hss hrBs
  obtain ⟨rE, hrE⟩ : ∃ x, x = readE s := ⟨_, rfl⟩
  obtain ⟨rK, hrK⟩ : ∃ x, x = readK s := ⟨_, rfl⟩
  obtain ⟨rG, hrG⟩ : ∃ x, x = readG s := ⟨_, rfl⟩
  obtain ⟨rB, hrB⟩ : ∃ x, x = readB s := ⟨_, rfl⟩
  rw [← hrE, ← hrK, ← hrG, ← hrB] at hO
  rw [← hrE, ← hrK, ← hrG, ← hrB] at cP
  rw [← hrK, ← hrB] at cG
  clear hrE hrK hrG hrB
  obtain ⟨nE, hnE⟩ : ∃ x, x = gE rK rB := ⟨_, rfl⟩
  obtain ⟨⟨nl, nk, nv, nc⟩, hnd⟩ : ∃ x, x = gN rK rB := ⟨_, rfl⟩
  rw [← hnE, ← hnd] at hO cG
  clear hnE hnd
  have cR : ∀ V a1 d1 k1 a2 d2 k2 a3 d3 k3, k1 = nk.length → k2 = nv.length → k3 = nc.length → IsS V a1 d1 nk → IsS V a2 d2 nv → IsI V a3 d3 nc → Calls Tryz.prog 177 #[.agg #[.bool nl, .slice a1 k1 d1, .slice a2 k2 d2, .slice a3 k3 d3], .bool rt] V fun e w' => e = .returned (.bool (rightN nl nk nv nc rt)) ∧ Below V.heap.size V w' := fun V a1 d1 k1 a2 d2 k2 a3 d3 k3 h1 h2 h3 i1 i2 i3 => refNodeRight_any nl a1 a2 a3 d1 d2 d3 k1 k2 k3 nk nv nc rt V h1 h2 h3 i1 i2 i3
  by_cases hE : rE = 0
  ·
   subst hE
   by_cases hG : rG ≤ gen
   ·
    have hG' : ¬ gen < rG := by omega
    by_cases hNE : nE = 0
    ·
     subst hNE
     cases hR : rightN nl nk nv nc rt with
     | true =>
      replace hO : O = some (nl, nk, nv, nc) := by rw [hO, if_pos ⟨rfl, hG, rfl, hR⟩]
      rw [hR] at cR
      clear hR hG
      go_enter Tryz.func162, Tryz.ntmps162
      go_wp2_with (first
       | (go_at_call 80; rw [← hW]; refine (cP _).mono ?_; rintro y w1 ⟨rfl, hb⟩; have hA : Below w1.heap.size w1 (w1.alloc (.cells #[.int .i64 rK, .int .i64 rG, .string rB] 115)) := (Below.refl _ _).alloc (Nat.le_refl _) _; have b3 := box3_new w1 (.int .i64 rK) (.int .i64 rG) (.string rB) 115; replace HB := Below.tr (Below.tr HB hb) hA; replace BR := (BR.below hb).below hA; replace BW := (BW.below hb).below hA; clear r0 r1 r2 r3 f0 f1 f2 f3 x0 x1 x2 x3 x4; obtain ⟨⟨r0, r1, r2, r3⟩, f0, f1, f2, f3⟩ := id BR; obtain ⟨x0, x1, x2, x3, x4⟩ := id BW; obtain ⟨⟨g0, g1, g2⟩, -⟩ := id b3; clear hb hA b3)
       | (go_at_call 176; refine (cG _).mono ?_; rintro y w2 ⟨k1, a1, d1, k2, a2, d2, k3, a3, d3, rfl, e1, e2, e3, i1, i2, i3, j1, j2, j3, hb⟩; have hA : Below w2.heap.size w2 (w2.alloc (.cells #[.bool nl, .slice a1 k1 d1, .slice a2 k2 d2, .slice a3 k3 d3] 205)) := (Below.refl _ _).alloc (Nat.le_refl _) _; have b4 := box4_new w2 (.bool nl) (.slice a1 k1 d1) (.slice a2 k2 d2) (.slice a3 k3 d3) 205 rfl; have hlo : w.heap.size + 2 ≤ w1.heap.size + 1 := (by have := BR.lt; simp at this; omega); replace HB := Below.tr (Below.tr HB hb) hA; replace BR := (BR.below hb).below hA; clear r0 r1 r2 r3 f0 f1 f2 f3 x0 x1 x2 x3 x4 g0 g1 g2 BW; obtain ⟨⟨r0, r1, r2, r3⟩, f0, f1, f2, f3⟩ := id BR; obtain ⟨⟨m0, m1, m2, m3⟩, -⟩ := id b4; have E : Hid (k1 = nk.length ∧ k2 = nv.length ∧ k3 = nc.length) := ⟨e1, e2, e3⟩; have I : Hid (IsS (w2.alloc (.cells #[.bool nl, .slice a1 k1 d1, .slice a2 k2 d2, .slice a3 k3 d3] 205)) a1 d1 nk ∧ IsS (w2.alloc (.cells #[.bool nl, .slice a1 k1 d1, .slice a2 k2 d2, .slice a3 k3 d3] 205)) a2 d2 nv ∧ IsI (w2.alloc (.cells #[.bool nl, .slice a1 k1 d1, .slice a2 k2 d2, .slice a3 k3 d3] 205)) a3 d3 nc) := ⟨i1.below hA, i2.below hA, i3.below hA⟩; have J : Hid (From (w.heap.size + 2) a1 ∧ From (w.heap.size + 2) a2 ∧ From (w.heap.size + 2) a3) := ⟨j1.mono (by simp; omega), j2.mono (by simp; omega), j3.mono (by simp; omega)⟩; clear hb hA hlo e1 e2 e3 i1 i2 i3 j1 j2 j3)
       | (go_at_call 177; refine (cR _ a1 d1 k1 a2 d2 k2 a3 d3 k3 E.out.1 E.out.2.1 E.out.2.2 I.out.1 I.out.2.1 I.out.2.2).mono ?_; rintro y w3 ⟨rfl, hb⟩; replace HB := Below.tr HB hb; replace BR := BR.below hb; replace b4 := b4.below hb; clear r0 r1 r2 r3 f0 f1 f2 f3 m0 m1 m2 m3; obtain ⟨⟨r0, r1, r2, r3⟩, f0, f1, f2, f3⟩ := id BR; obtain ⟨⟨m0, m1, m2, m3⟩, -⟩ := id b4; replace I : Hid (IsS w3 a1 d1 nk ∧ IsS w3 a2 d2 nv ∧ IsI w3 a3 d3 nc) := ⟨I.out.1.below hb, I.out.2.1.below hb, I.out.2.2.below hb⟩; clear hb))
      have T4 := turns_put4 w3 (w.heap.size + 1) (.bool nl) (.slice a1 k1 d1) (.slice a2 k2 d2) (.slice a3 k3 d3)
      obtain ⟨j1, j2, j3⟩ := J.out
      refine bodyPost_ret (v := .tuple #[.agg #[.bool nl, .slice a1 k1 d1, .slice a2 k2 d2, .slice a3 k3 d3], .bool true]) (by simp [results, Tryz.results162, go_sem, r0, r1, r2, r3]) rfl ?_
      rw [hO]
      exact ⟨k1, a1, d1, k2, a2, d2, k3, a3, d3, rfl, E.out.1, E.out.2.1, E.out.2.2, I.out.1.turns T4 (fun x hx e => by have := j1 x hx; omega), I.out.2.1.turns T4 (fun x hx e => by have := j2 x hx; omega), I.out.2.2.turns T4 (fun x hx e => by have := j3 x hx; omega), j1.mono (by omega), j2.mono (by omega), j3.mono (by omega), below_put4 HB hle _ _ _ _⟩
     | false =>
      replace hO : O = none := by rw [hO, if_neg (fun h => by rw [hR] at h; exact absurd h.2.2.2 (by decide))]
      rw [hR] at cR
      clear hR hG
      go_enter Tryz.func162, Tryz.ntmps162
      go_wp2_with (first
       | (go_at_call 80; rw [← hW]; refine (cP _).mono ?_; rintro y w1 ⟨rfl, hb⟩; have hA : Below w1.heap.size w1 (w1.alloc (.cells #[.int .i64 rK, .int .i64 rG, .string rB] 115)) := (Below.refl _ _).alloc (Nat.le_refl _) _; have b3 := box3_new w1 (.int .i64 rK) (.int .i64 rG) (.string rB) 115; replace HB := Below.tr (Below.tr HB hb) hA; replace BR := (BR.below hb).below hA; replace BW := (BW.below hb).below hA; clear r0 r1 r2 r3 f0 f1 f2 f3 x0 x1 x2 x3 x4; obtain ⟨⟨r0, r1, r2, r3⟩, f0, f1, f2, f3⟩ := id BR; obtain ⟨x0, x1, x2, x3, x4⟩ := id BW; obtain ⟨⟨g0, g1, g2⟩, -⟩ := id b3; clear hb hA b3)
       | (go_at_call 176; refine (cG _).mono ?_; rintro y w2 ⟨k1, a1, d1, k2, a2, d2, k3, a3, d3, rfl, e1, e2, e3, i1, i2, i3, j1, j2, j3, hb⟩; have hA : Below w2.heap.size w2 (w2.alloc (.cells #[.bool nl, .slice a1 k1 d1, .slice a2 k2 d2, .slice a3 k3 d3] 205)) := (Below.refl _ _).alloc (Nat.le_refl _) _; have b4 := box4_new w2 (.bool nl) (.slice a1 k1 d1) (.slice a2 k2 d2) (.slice a3 k3 d3) 205 rfl; have hlo : w.heap.size + 2 ≤ w1.heap.size + 1 := (by have := BR.lt; simp at this; omega); replace HB := Below.tr (Below.tr HB hb) hA; replace BR := (BR.below hb).below hA; clear r0 r1 r2 r3 f0 f1 f2 f3 x0 x1 x2 x3 x4 g0 g1 g2 BW; obtain ⟨⟨r0, r1, r2, r3⟩, f0, f1, f2, f3⟩ := id BR; obtain ⟨⟨m0, m1, m2, m3⟩, -⟩ := id b4; have E : Hid (k1 = nk.length ∧ k2 = nv.length ∧ k3 = nc.length) := ⟨e1, e2, e3⟩; have I : Hid (IsS (w2.alloc (.cells #[.bool nl, .slice a1 k1 d1, .slice a2 k2 d2, .slice a3 k3 d3] 205)) a1 d1 nk ∧ IsS (w2.alloc (.cells #[.bool nl, .slice a1 k1 d1, .slice a2 k2 d2, .slice a3 k3 d3] 205)) a2 d2 nv ∧ IsI (w2.alloc (.cells #[.bool nl, .slice a1 k1 d1, .slice a2 k2 d2, .slice a3 k3 d3] 205)) a3 d3 nc) := ⟨i1.below hA, i2.below hA, i3.below hA⟩; have J : Hid (From (w.heap.size + 2) a1 ∧ From (w.heap.size + 2) a2 ∧ From (w.heap.size + 2) a3) := ⟨j1.mono (by simp; omega), j2.mono (by simp; omega), j3.mono (by simp; omega)⟩; clear hb hA hlo e1 e2 e3 i1 i2 i3 j1 j2 j3)
       | (go_at_call 177; refine (cR _ a1 d1 k1 a2 d2 k2 a3 d3 k3 E.out.1 E.out.2.1 E.out.2.2 I.out.1 I.out.2.1 I.out.2.2).mono ?_; rintro y w3 ⟨rfl, hb⟩; replace HB := Below.tr HB hb; replace BR := BR.below hb; replace b4 := b4.below hb; clear r0 r1 r2 r3 f0 f1 f2 f3 m0 m1 m2 m3; obtain ⟨⟨r0, r1, r2, r3⟩, f0, f1, f2, f3⟩ := id BR; obtain ⟨⟨m0, m1, m2, m3⟩, -⟩ := id b4; replace I : Hid (IsS w3 a1 d1 nk ∧ IsS w3 a2 d2 nv ∧ IsI w3 a3 d3 nc) := ⟨I.out.1.below hb, I.out.2.1.below hb, I.out.2.2.below hb⟩; clear hb))
      refine bodyPost_ret (v := .tuple #[.agg #[.bool false, .slice none 0 0, .slice none 0 0, .slice none 0 0], .bool false]) (by simp [results, Tryz.results162, go_sem, r0, r1, r2, r3]) rfl ?_
      rw [hO]
      exact ⟨rfl, below_put4 HB hle _ _ _ _⟩
    ·
     replace hO : O = none := by rw [hO, if_neg (fun h => hNE h.2.2.1)]
     clear hG
     go_enter Tryz.func162, Tryz.ntmps162
     go_wp2_with (first
      | (go_at_call 80; rw [← hW]; refine (cP _).mono ?_; rintro y w1 ⟨rfl, hb⟩; have hA : Below w1.heap.size w1 (w1.alloc (.cells #[.int .i64 rK, .int .i64 rG, .string rB] 115)) := (Below.refl _ _).alloc (Nat.le_refl _) _; have b3 := box3_new w1 (.int .i64 rK) (.int .i64 rG) (.string rB) 115; replace HB := Below.tr (Below.tr HB hb) hA; replace BR := (BR.below hb).below hA; replace BW := (BW.below hb).below hA; clear r0 r1 r2 r3 f0 f1 f2 f3 x0 x1 x2 x3 x4; obtain ⟨⟨r0, r1, r2, r3⟩, f0, f1, f2, f3⟩ := id BR; obtain ⟨x0, x1, x2, x3, x4⟩ := id BW; obtain ⟨⟨g0, g1, g2⟩, -⟩ := id b3; clear hb hA b3)
      | (go_at_call 176; refine (cG _).mono ?_; rintro y w2 ⟨k1, a1, d1, k2, a2, d2, k3, a3, d3, rfl, e1, e2, e3, i1, i2, i3, j1, j2, j3, hb⟩; have hA : Below w2.heap.size w2 (w2.alloc (.cells #[.bool nl, .slice a1 k1 d1, .slice a2 k2 d2, .slice a3 k3 d3] 205)) := (Below.refl _ _).alloc (Nat.le_refl _) _; have b4 := box4_new w2 (.bool nl) (.slice a1 k1 d1) (.slice a2 k2 d2) (.slice a3 k3 d3) 205 rfl; have hlo : w.heap.size + 2 ≤ w1.heap.size + 1 := (by have := BR.lt; simp at this; omega); replace HB := Below.tr (Below.tr HB hb) hA; replace BR := (BR.below hb).below hA; clear r0 r1 r2 r3 f0 f1 f2 f3 x0 x1 x2 x3 x4 g0 g1 g2 BW; obtain ⟨⟨r0, r1, r2, r3⟩, f0, f1, f2, f3⟩ := id BR; obtain ⟨⟨m0, m1, m2, m3⟩, -⟩ := id b4; have E : Hid (k1 = nk.length ∧ k2 = nv.length ∧ k3 = nc.length) := ⟨e1, e2, e3⟩; have I : Hid (IsS (w2.alloc (.cells #[.bool nl, .slice a1 k1 d1, .slice a2 k2 d2, .slice a3 k3 d3] 205)) a1 d1 nk ∧ IsS (w2.alloc (.cells #[.bool nl, .slice a1 k1 d1, .slice a2 k2 d2, .slice a3 k3 d3] 205)) a2 d2 nv ∧ IsI (w2.alloc (.cells #[.bool nl, .slice a1 k1 d1, .slice a2 k2 d2, .slice a3 k3 d3] 205)) a3 d3 nc) := ⟨i1.below hA, i2.below hA, i3.below hA⟩; have J : Hid (From (w.heap.size + 2) a1 ∧ From (w.heap.size + 2) a2 ∧ From (w.heap.size + 2) a3) := ⟨j1.mono (by simp; omega), j2.mono (by simp; omega), j3.mono (by simp; omega)⟩; clear hb hA hlo e1 e2 e3 i1 i2 i3 j1 j2 j3))
     refine bodyPost_ret (v := .tuple #[.agg #[.bool false, .slice none 0 0, .slice none 0 0, .slice none 0 0], .bool false]) (by simp [results, Tryz.results162, go_sem, r0, r1, r2, r3]) rfl ?_
     rw [hO]
     exact ⟨rfl, below_put4 HB hle _ _ _ _⟩
   ·
    have hG' : gen < rG := by omega
    replace hO : O = none := by rw [hO, if_neg (fun h => hG h.2.1)]
    clear hG
    go_enter Tryz.func162, Tryz.ntmps162
    go_wp2_with (go_at_call 80; rw [← hW]; refine (cP _).mono ?_; rintro y w1 ⟨rfl, hb⟩; have hA : Below w1.heap.size w1 (w1.alloc (.cells #[.int .i64 rK, .int .i64 rG, .string rB] 115)) := (Below.refl _ _).alloc (Nat.le_refl _) _; have b3 := box3_new w1 (.int .i64 rK) (.int .i64 rG) (.string rB) 115; replace HB := Below.tr (Below.tr HB hb) hA; replace BR := (BR.below hb).below hA; replace BW := (BW.below hb).below hA; clear r0 r1 r2 r3 f0 f1 f2 f3 x0 x1 x2 x3 x4; obtain ⟨⟨r0, r1, r2, r3⟩, f0, f1, f2, f3⟩ := id BR; obtain ⟨x0, x1, x2, x3, x4⟩ := id BW; obtain ⟨⟨g0, g1, g2⟩, -⟩ := id b3; clear hb hA b3)
    refine bodyPost_ret (v := .tuple #[.agg #[.bool false, .slice none 0 0, .slice none 0 0, .slice none 0 0], .bool false]) (by simp [results, Tryz.results162, go_sem, r0, r1, r2, r3]) rfl ?_
    rw [hO]
    exact ⟨rfl, below_put4 HB hle _ _ _ _⟩
  ·
   replace hO : O = none := by rw [hO, if_neg (fun h => hE h.1)]
   go_enter Tryz.func162, Tryz.ntmps162
   go_wp2_with (go_at_call 80; rw [← hW]; refine (cP _).mono ?_; rintro y w1 ⟨rfl, hb⟩; have hA : Below w1.heap.size w1 (w1.alloc (.cells #[.int .i64 rK, .int .i64 rG, .string rB] 115)) := (Below.refl _ _).alloc (Nat.le_refl _) _; have b3 := box3_new w1 (.int .i64 rK) (.int .i64 rG) (.string rB) 115; replace HB := Below.tr (Below.tr HB hb) hA; replace BR := (BR.below hb).below hA; replace BW := (BW.below hb).below hA; clear r0 r1 r2 r3 f0 f1 f2 f3 x0 x1 x2 x3 x4; obtain ⟨⟨r0, r1, r2, r3⟩, f0, f1, f2, f3⟩ := id BR; obtain ⟨x0, x1, x2, x3, x4⟩ := id BW; obtain ⟨⟨g0, g1, g2⟩, -⟩ := id b3; clear hb hA b3)
   refine bodyPost_ret (v := .tuple #[.agg #[.bool false, .slice none 0 0, .slice none 0 0, .slice none 0 0], .bool false]) (by simp [results, Tryz.results162, go_sem, r0, r1, r2, r3]) rfl ?_
   rw [hO]
   exact ⟨rfl, below_put4 HB hle _ _ _ _⟩
 ·
  have hO : O = none := by rw [hO']; unfold holdsS; rw [if_neg hin]
  clear hO'
  by_cases h10 : block < 10
  ·
   clear hin hn' hp hB' hP
   go_enter Tryz.func162, Tryz.ntmps162
   go_wp2
   refine bodyPost_ret (v := .tuple #[.agg #[.bool false, .slice none 0 0, .slice none 0 0, .slice none 0 0], .bool false]) (by simp [results, Tryz.results162, go_sem, r0, r1, r2, r3]) rfl ?_
   rw [hW] at HB
   first
    | exact ⟨rfl, HB⟩
    | (rw [hO]; exact ⟨rfl, HB⟩)
  ·
   by_cases hl1 : block < n'
   ·
    have hl1' : ¬ (n' : Int) ≤ block := by omega
    by_cases hl2 : block < p
    ·
     have hl2' : ¬ (p : Int) ≤ block := by omega
     obtain ⟨i, rfl⟩ : ∃ i : Nat, block = i := ⟨block.toNat, by omega⟩
     have hi1 : i < ns.length := by omega
     have hgn : ns[i]? = some false := by
      rw [List.getElem?_eq_getElem hi1]
      refine congrArg some (Bool.eq_false_iff.2 fun h => hin ⟨by omega, by omega, by omega, ?_⟩)
      rw [Int.toNat_natCast, List.getD_eq_getElem?_getD, List.getElem?_eq_getElem hi1]
      exact h
     obtain ⟨b1, o1, rfl, hlb1, hc1⟩ := hB'.2.2 i false hgn
     have z1 := cell_below HB hc1
     rw [hW] at z1
     clear hin hn' hp hB' hP hgn hi1 hc1 hlb1
     go_enter Tryz.func162, Tryz.ntmps162
     go_wp2
     refine bodyPost_ret (v := .tuple #[.agg #[.bool false, .slice none 0 0, .slice none 0 0, .slice none 0 0], .bool false]) (by simp [results, Tryz.results162, go_sem, r0, r1, r2, r3]) rfl ?_
     rw [hW] at HB
     first
      | exact ⟨rfl, HB⟩
      | (rw [hO]; exact ⟨rfl, HB⟩)
    ·
     have hl2' : (p : Int) ≤ block := by omega
     clear hin hn' hp hB' hP
     go_enter Tryz.func162, Tryz.ntmps162
     go_wp2
     refine bodyPost_ret (v := .tuple #[.agg #[.bool false, .slice none 0 0, .slice none 0 0, .slice none 0 0], .bool false]) (by simp [results, Tryz.results162, go_sem, r0, r1, r2, r3]) rfl ?_
     rw [hW] at HB
     first
      | exact ⟨rfl, HB⟩
      | (rw [hO]; exact ⟨rfl, HB⟩)
   ·
    have hl1' : (n' : Int) ≤ block := by omega
    clear hin hn' hp hB' hP
    go_enter Tryz.func162, Tryz.ntmps162
    go_wp2
    refine bodyPost_ret (v := .tuple #[.agg #[.bool false, .slice none 0 0, .slice none 0 0, .slice none 0 0], .bool false]) (by simp [results, Tryz.results162, go_sem, r0, r1, r2, r3]) rfl ?_
    rw [hW] at HB
    first
     | exact ⟨rfl, HB⟩
     | (rw [hO]; exact ⟨rfl, HB⟩)
end Go.Proofs.YtaobfgplheoefaaGreat
namespace Go.Proofs.YtaobfgplheoefaaGreat
open Go.RowKit Plain
set_option linter.unusedVariables false
set_option maxRecDepth 20000 in
set_option maxHeartbeats 2000000 in
theorem tree_any (a a' b : Option Addr) (n c n' c' p f : Nat) (ns : List Bool) (ps : List ByteArray) (root gen : Int) (w : World) (hn' : n' = ns.length) (hp : p = ps.length) (hB' : IsB w a' c' ns) (hP : IsS w b f ps) :
  Calls Tryz.prog 97 #[.agg #[.slice a n c, .slice a' n' c', .slice b p f, .int .i64 root, .int .i64 gen]] w fun x w' => ∃ u1 u2, x = .returned (.pointer (some ⟨w.heap.size + 1, 0, none⟩)) ∧ TreeAt w' (w.heap.size + 1) (w.heap.size + 2) u1 u2 (treeS ns ps root gen) ∧ Below w.heap.size w w' := by
 obtain ⟨W, hW⟩ : ∃ W, W = (w.alloc (.cells #[.slice a n c, .slice a' n' c', .slice b p f, .int .i64 root, .int .i64 gen] 40)).alloc (.cells #[.slice none 0 0, .slice none 0 0, .int .i64 0, .bool false] 150) := ⟨_, rfl⟩
 have HB : Below w.heap.size w W := by rw [hW]; exact ((Below.refl _ _).alloc (Nat.le_refl _) _).alloc (by simp) _
 have BW : WoodBox W w.heap.size (.slice a n c) (.slice a' n' c') (.slice b p f) (.int .i64 root) (.int .i64 gen) := by rw [hW]; exact (woodBox_new _ _ _ _ _ _ _ rfl).below ((Below.refl _ _).alloc (Nat.le_refl _) _)
 have T0 : TreeAt W (w.heap.size + 1) (w.heap.size + 2) (.slice none 0 0) (.slice none 0 0) TreeS.none := by
  rw [hW]
  exact ⟨box4_new _ _ _ _ _ _ (by simp), ⟨rfl, .inl ⟨rfl, rfl⟩⟩, ⟨rfl, .inl ⟨rfl, rfl⟩⟩, apart_nil _ _, by omega, by simp⟩
 have hle : w.heap.size ≤ w.heap.size + 1 := by omega
 have cB : ∀ V, Below w.heap.size w V → TreeAt V (w.heap.size + 1) (w.heap.size + 2) (.slice none 0 0) (.slice none 0 0) TreeS.none → Calls Tryz.prog 141 #[.pointer (some ⟨w.heap.size + 1, 0, none⟩), .agg #[.slice a n c, .slice a' n' c', .slice b p f, .int .i64 root, .int .i64 gen], .int .i64 root, .int .i64 1, .string ⟨#[]⟩, .string ⟨#[]⟩] V fun e V' => e = .returned (.tuple #[]) ∧ ∃ u1' u2', TreeAt V' (w.heap.size + 1) (w.heap.size + 2) u1' u2' (belowS (holdsS ns ps gen) 8 TreeS.none root ⟨#[]⟩ ⟨#[]⟩) ∧ Grows (w.heap.size + 1) (.slice none 0 0) (.slice none 0 0) V u1' u2' V' := fun V hV T =>
  below_any (w := w) (H := holdsS ns ps gen) (w.heap.size + 1) (w.heap.size + 2) a a' b n c n' c' p f root gen hle
   (fun V block r hb h => by
    have := holds_any a a' b n c n' c' p f ns ps root gen block r V hn' hp (hB'.below hb) (hP.below hb)
    rw [h] at this
    exact this)
   (fun V block r nd hb h => by
    have := holds_any a a' b n c n' c' p f ns ps root gen block r V hn' hp (hB'.below hb) (hP.below hb)
    rw [h] at this
    exact this)
   holds_len 8 (by decide) V _ _ TreeS.none root ⟨#[]⟩ ⟨#[]⟩ hV T (by decide) (by decide)
 obtain ⟨x0, x1, x2, x3, x4⟩ := id (hW ▸ BW)
 clear hn' hp hB' hP
 by_cases hr : root = 0
 ·
  have ht : treeS ns ps root gen = TreeS.none := by unfold treeS; rw [if_pos hr]
  rw [ht]
  subst hr
  clear ht cB
  go_enter Tryz.func97, Tryz.ntmps97
  go_wp2
  go_ret
  exact ⟨_, _, rfl, hW ▸ T0, hW ▸ HB⟩
 ·
  have ht : treeS ns ps root gen = belowS (holdsS ns ps gen) 8 TreeS.none root ⟨#[]⟩ ⟨#[]⟩ := by unfold treeS; rw [if_neg hr]
  rw [ht]
  clear ht
  go_enter Tryz.func97, Tryz.ntmps97
  go_wp2_with (go_at_call 141; rw [← hW]; refine (cB _ HB T0).mono ?_; rintro y w1 ⟨rfl, v1, v2, D, G⟩)
  have HB1 := Grows.low (S := 0) T0 G HB hle
  go_ret
  exact ⟨v1, v2, rfl, D, HB1⟩
set_option maxRecDepth 20000 in
set_option maxHeartbeats 2000000 in
theorem refRightW_any (a a' b : Option Addr) (n c n' c' p f : Nat) (bs ns : List Bool) (ps : List ByteArray) (root gen : Int) (w : World) (hn : n = bs.length) (hn' : n' = ns.length) (hp : p = ps.length) (hB : IsB w a c bs) (hB' : IsB w a' c' ns) (hP : IsS w b f ps) :
  Calls Tryz.prog 58 #[.agg #[.slice a n c, .slice a' n' c', .slice b p f, .int .i64 root, .int .i64 gen]] w fun e w' => e = .returned (.bool (rightW bs ns ps root gen)) ∧ Below w.heap.size w w' := by
 obtain ⟨W, hW⟩ : ∃ W, W = (w.alloc (.cells #[.slice a n c, .slice a' n' c', .slice b p f, .int .i64 root, .int .i64 gen] 40)).alloc (.cells #[.slice a n c, .slice a' n' c'] 38) := ⟨_, rfl⟩
 have HB : Below w.heap.size w W := by rw [hW]; exact ((Below.refl _ _).alloc (Nat.le_refl _) _).alloc (by simp) _
 have BW : WoodBox W w.heap.size (.slice a n c) (.slice a' n' c') (.slice b p f) (.int .i64 root) (.int .i64 gen) := by rw [hW]; exact (woodBox_new _ _ _ _ _ _ _ rfl).below ((Below.refl _ _).alloc (Nat.le_refl _) _)
 have cA := allocRefRight_any a a' c c' n n' bs ns W hn hn' (hB.below HB) (hB'.below HB)
 have mn : n' ≤ 9223372036854775807 := by rw [hn']; exact Nat.le_trans hB'.1 hB'.2.1
 have mp : p ≤ 9223372036854775807 := by rw [hp]; exact Nat.le_trans hP.1 hP.2.1
 obtain ⟨r, hr⟩ : ∃ r, r = rightW bs ns ps root gen := ⟨_, rfl⟩
 rw [← hr]
 unfold rightW at hr
 have EP : Hid (p = ps.length) := hp
 have EN : Hid (n' = ns.length) := hn'
 have RP : Hid (IsS w b f ps) := hP
 obtain ⟨x0, x1, x2, x3, x4⟩ := id (hW ▸ BW)
 clear hn hn' hp hB hB' hP
 cases hA : rightA bs ns with
 | false =>
  rw [hA] at hr cA
  replace hr : r = false := by rw [hr]; simp
  clear hA
  go_enter Tryz.func58, Tryz.ntmps58
  go_wp2_with (go_at_call 107; rw [← hW]; refine cA.mono ?_; rintro y w1 ⟨rfl, hb⟩; replace HB := Below.tr HB hb; replace BW := BW.below hb; clear x0 x1 x2 x3 x4; obtain ⟨x0, x1, x2, x3, x4⟩ := id BW; clear hb)
  go_ret
  exact ⟨by rw [hr]; rfl, HB⟩
 | true =>
  rw [hA] at hr cA
  clear hA
  by_cases h1 : p = n'
  ·
   by_cases h2 : 1 ≤ gen
   ·
    have h2' : ¬ gen < 1 := by omega
    by_cases h3 : gen ≤ 1099511627776
    ·
     have h3' : ¬ 1099511627776 < gen := by omega
     have hr1 : Hid (r = (ps.all (fun s => decide (s.size ≤ 4096)) && (decide (root = 0) || (decide (10 ≤ root) && decide (root < ns.length))))) := by
      show _ = _
      rw [hr, decide_eq_true (show ps.length = ns.length by rw [← EP.out, ← EN.out]; exact h1), decide_eq_true h2, decide_eq_true h3]
      rfl
     have h1' : ((p : Int) != n') = false := by simp [h1]
     clear hr h1
     go_enter Tryz.func58, Tryz.ntmps58
     go_wp2_with (go_at_call 107; rw [← hW]; refine cA.mono ?_; rintro y w1 ⟨rfl, hb⟩; replace HB := Below.tr HB hb; replace BW := BW.below hb; clear x0 x1 x2 x3 x4; obtain ⟨x0, x1, x2, x3, x4⟩ := id BW; clear hb)
     go_loop [39] (fun v => ∃ j : Nat, j ≤ p ∧ v = .int .i64 j ∧ (ps.take j).all (fun s => decide (s.size ≤ 4096)) = true) (fun v => p - (intOf v).toNat)
     case atStart => exact ⟨0, by omega, rfl, rfl⟩
     case round =>
      obtain ⟨j, hj, rfl, hA⟩ := hrel
      have HA : Hid ((ps.take j).all (fun s => decide (s.size ≤ 4096)) = true) := hA
      clear hA
      by_cases hlt : j < p
      ·
       have hlt' : (j : Int) < p := by omega
       obtain ⟨s, hs⟩ : ∃ x, Hid (ps[j]? = some x) := get_some (by rw [← EP.out]; exact hlt)
       obtain ⟨b1, o1, rfl, -, hc0, hss⟩ := RP.out.2.2 j s hs.out
       have hc := cell_below HB hc0
       clear hc0
       by_cases hsz : s.size ≤ 4096
       ·
        have hsz' : ¬ (4096 : Int) < s.size := by omega
        go_wp2
        go_round
        case rel => exact ⟨j + 1, by omega, by go_num, by rw [all_more hs.out, HA.out, decide_eq_true hsz]; rfl⟩
        case measure => simp [intOf]; omega
       ·
        have hsz' : (4096 : Int) < s.size := by omega
        have hrf : Hid (r = false) := by
         show _ = _
         rw [hr1.out, List.all_eq_false.2 ⟨s, List.mem_of_getElem? hs.out, by simpa using hsz⟩]
         rfl
        go_wp2
        go_ret
        exact ⟨by rw [hrf.out]; rfl, HB⟩
      ·
       obtain rfl : p = j := by omega
       have hj0 : ¬ (p : Int) < p := by omega
       have hall : ps.all (fun s => decide (s.size ≤ 4096)) = true := by
        have := HA.out
        rw [EP.out, List.take_length] at this
        exact this
       by_cases hr0 : root = 0
       ·
        have hrf : Hid (r = true) := by show _ = _; rw [hr1.out, hall, decide_eq_true hr0]; rfl
        clear hall
        subst hr0
        go_wp2
        go_ret
        exact ⟨by rw [hrf.out]; rfl, HB⟩
       ·
        have hr00 : (root == 0) = false := by simpa using hr0
        by_cases hr10 : 10 ≤ root
        ·
         have hr10' : ¬ root < 10 := by omega
         have hrf : Hid (r = decide (root < (n' : Int))) := by show _ = _; rw [hr1.out, hall, decide_eq_false hr0, decide_eq_true hr10, EN.out]; rfl
         clear hall
         go_wp2
         go_ret
         exact ⟨by rw [hrf.out]; rfl, HB⟩
        ·
         have hr10' : root < 10 := by omega
         have hrf : Hid (r = false) := by show _ = _; rw [hr1.out, hall, decide_eq_false hr0, decide_eq_false hr10]; rfl
         clear hall
         go_wp2
         go_ret
         exact ⟨by rw [hrf.out]; rfl, HB⟩
    ·
     have h3' : 1099511627776 < gen := by omega
     have h1' : ((p : Int) != n') = false := by simp [h1]
     replace hr : r = false := by rw [hr, decide_eq_false h3]; simp
     clear h1
     go_enter Tryz.func58, Tryz.ntmps58
     go_wp2_with (go_at_call 107; rw [← hW]; refine cA.mono ?_; rintro y w1 ⟨rfl, hb⟩; replace HB := Below.tr HB hb; replace BW := BW.below hb; clear x0 x1 x2 x3 x4; obtain ⟨x0, x1, x2, x3, x4⟩ := id BW; clear hb)
     go_ret
     exact ⟨by rw [hr]; rfl, HB⟩
   ·
    have h2' : gen < 1 := by omega
    have h1' : ((p : Int) != n') = false := by simp [h1]
    replace hr : r = false := by rw [hr, decide_eq_false h2]; simp
    clear h1
    go_enter Tryz.func58, Tryz.ntmps58
    go_wp2_with (go_at_call 107; rw [← hW]; refine cA.mono ?_; rintro y w1 ⟨rfl, hb⟩; replace HB := Below.tr HB hb; replace BW := BW.below hb; clear x0 x1 x2 x3 x4; obtain ⟨x0, x1, x2, x3, x4⟩ := id BW; clear hb)
    go_ret
    exact ⟨by rw [hr]; rfl, HB⟩
  ·
   have h1' : ((p : Int) != n') = true := by simp; omega
   replace hr : r = false := by rw [hr, decide_eq_false (show ¬ ps.length = ns.length by rw [← EP.out, ← EN.out]; exact h1)]; simp
   go_enter Tryz.func58, Tryz.ntmps58
   go_wp2_with (go_at_call 107; rw [← hW]; refine cA.mono ?_; rintro y w1 ⟨rfl, hb⟩; replace HB := Below.tr HB hb; replace BW := BW.below hb; clear x0 x1 x2 x3 x4; obtain ⟨x0, x1, x2, x3, x4⟩ := id BW; clear hb)
   go_ret
   exact ⟨by rw [hr]; rfl, HB⟩
end Go.Proofs.YtaobfgplheoefaaGreat
namespace Go.Proofs.YtaobfgplheoefaaGreat.Plain
open Go.RowKit Go.Proofs.YtaobfgplheoefaaGreat
theorem mt_few {bs : List ByteArray} {ps : List (Int × ByteArray)} {t : ByteArray} (h : rightD bs ps = true ∧ ps.length = 0) (hl : bs.length < 24) : mtE bs ps t = 120 := by
 refine mt_su h (fun hh => ?_)
 have h1 : suE t = 0 := by
  apply (suG_pos (s := t)).2.2
  have := (suG_pos (s := t)).1
  have h0 : ¬ suG t = 0 := fun h0 => by have := hh.1; unfold chE at this; rw [if_pos h0] at this; cases this
  omega
 have := (rightSu_iff _ _ _ _).1 (su_once h1).1
 omega
theorem wd_us {bs : List ByteArray} {t : ByteArray} (h : ¬ usE (blk bs (suM t).toNat) (suG t) (suZ t) = 0) : wdE bs t = 120 := if_neg h
end Go.Proofs.YtaobfgplheoefaaGreat.Plain
namespace Go.Proofs.YtaobfgplheoefaaGreat
open Go.RowKit Plain
set_option linter.unusedVariables false
theorem ringByteAt (B : ByteArray) (k : Nat) (hk : k < B.size) : ∃ x : Int, 0 ≤ x ∧ x ≤ 255 ∧ ((B[k].toNat : Int) = x) ∧ ∀ W : World, (Instr.index 9 (.string B) (.int .i64 k)).run Tryz.prog W = .ok (.int .u8 x) W := by
 have hb := B[k].toNat_lt
 refine ⟨(B[k].toNat : Int), by omega, by omega, rfl, fun W => ?_⟩
 go_simp
set_option maxHeartbeats 1000000 in
theorem refRingGet_any (s : ByteArray) (g : Int) (w : World) (hs : s.size ≤ maxLen) :
  Calls Tryz.prog 82 #[.string s, .int .i64 g] w fun e w' => e = .returned (.tuple #[.int .i64 (rgN s g), .string (rgB s g), .int .i64 (rgE s g)]) ∧ Below w.heap.size w w' := by
 have c1 := fun W => refPageGet_any s W hs
 have hl : readE s = 0 → (readB s).size ≤ 4000 := fun h => by
  have := (rightP_iff _ _ _).1 (page_once h).1
  omega
 have hE' : rgE s g = if readE s = 0 then (if readK s = 5 then (if readG s = g then (if 1 ≤ (readB s).size then (if (readB s).size ≤ 481 then (if getV (readB s) 0 1 ≤ 7 then 0 else 4) else 4) else 4) else 4) else 40) else readE s := rfl
 have zN : rgN s g = if rgE s g = 0 then getV (readB s) 0 1 else 0 := rfl
 have zB : rgB s g = if rgE s g = 0 then (readB s).extract 1 (readB s).size else ⟨#[]⟩ := rfl
 rw [zN, zB]
 generalize rgE s g = X at *
 clear zN zB
 generalize readK s = K at *
 generalize readG s = G at *
 generalize readB s = B at *
 generalize readE s = E at *
 have bad : ∀ (v : Value) (y : Int), v = .tuple #[.int .i64 0, .string ⟨#[]⟩, .int .i64 y] → X = y ∧ ¬ y = 0 → v = .tuple #[.int .i64 (if X = 0 then getV B 0 1 else 0), .string (if X = 0 then B.extract 1 B.size else ⟨#[]⟩), .int .i64 X] := by
  rintro v y rfl ⟨rfl, hy⟩
  rw [if_neg hy, if_neg hy]
 by_cases h0 : E = 0
 ·
  subst h0
  rw [if_pos rfl] at hE'
  replace hl := hl rfl
  by_cases h1 : K = 5
  ·
   subst h1
   rw [if_pos rfl] at hE'
   by_cases h2 : G = g
   ·
    rw [if_pos h2] at hE'
    subst h2
    by_cases h3 : 1 ≤ B.size
    ·
     rw [if_pos h3] at hE'
     by_cases h4 : B.size ≤ 481
     ·
      rw [if_pos h4] at hE'
      obtain ⟨x, x0, x1, xe, hi⟩ := ringByteAt B 0 (by omega)
      have eV : getV B 0 1 = x := by rw [getV_succ B 0 0 (by omega), ← xe]; simp [getV]
      rw [eV] at hE' bad ⊢
      by_cases h5 : x ≤ 7
      ·
       rw [if_pos h5] at hE'
       subst hE'
       rw [if_pos rfl, if_pos rfl]
       have ww : IntKind.i64.wrap x = x := i64_in _ (by omega) (by omega)
       subst xe
       clear bad eV hi
       go_enter Tryz.func82, Tryz.ntmps82
       go_wp2_with (first
   | (go_at_call 80; refine (c1 _).mono ?_; rintro e w1 ⟨rfl, hb⟩; have hB := hb.alloc hb.size (.cells #[.int .i64 5, .int .i64 G, .string B] 115); have P := box3_new w1 (.int .i64 5) (.int .i64 G) (.string B) 115; obtain ⟨⟨p0, p1, p2⟩, -⟩ := id P; clear hb)
        )
       go_region
       go_wp2
       go_ret3
       exact ⟨rfl, hB.drew⟩
      ·
       rw [if_neg h5] at hE'
       have hX : X = 4 ∧ ¬ (4 : Int) = 0 := ⟨hE', by decide⟩
       rw [← bad _ _ rfl hX]
       clear bad hX hE'
       go_enter Tryz.func82, Tryz.ntmps82
       go_wp2_with (first
          | (go_at_call 80; refine (c1 _).mono ?_; rintro e w1 ⟨rfl, hb⟩; have hB := hb.alloc hb.size (.cells #[.int .i64 5, .int .i64 G, .string B] 115); have P := box3_new w1 (.int .i64 5) (.int .i64 G) (.string B) 115; obtain ⟨⟨p0, p1, p2⟩, -⟩ := id P; clear hb)
        )
       go_ret3
       exact ⟨rfl, hB⟩
     ·
      rw [if_neg h4] at hE'
      have hX : X = 4 ∧ ¬ (4 : Int) = 0 := ⟨hE', by decide⟩
      rw [← bad _ _ rfl hX]
      clear bad hX hE'
      go_enter Tryz.func82, Tryz.ntmps82
      go_wp2_with (first
         | (go_at_call 80; refine (c1 _).mono ?_; rintro e w1 ⟨rfl, hb⟩; have hB := hb.alloc hb.size (.cells #[.int .i64 5, .int .i64 G, .string B] 115); have P := box3_new w1 (.int .i64 5) (.int .i64 G) (.string B) 115; obtain ⟨⟨p0, p1, p2⟩, -⟩ := id P; clear hb)
       )
      go_ret3
      exact ⟨rfl, hB⟩
    ·
     rw [if_neg h3] at hE'
     have hX : X = 4 ∧ ¬ (4 : Int) = 0 := ⟨hE', by decide⟩
     rw [← bad _ _ rfl hX]
     clear bad hX hE'
     go_enter Tryz.func82, Tryz.ntmps82
     go_wp2_with (first
        | (go_at_call 80; refine (c1 _).mono ?_; rintro e w1 ⟨rfl, hb⟩; have hB := hb.alloc hb.size (.cells #[.int .i64 5, .int .i64 G, .string B] 115); have P := box3_new w1 (.int .i64 5) (.int .i64 G) (.string B) 115; obtain ⟨⟨p0, p1, p2⟩, -⟩ := id P; clear hb)
      )
     go_ret3
     exact ⟨rfl, hB⟩
   ·
    rw [if_neg h2] at hE'
    have h2' : (G == g) = false := by simpa using h2
    have hX : X = 4 ∧ ¬ (4 : Int) = 0 := ⟨hE', by decide⟩
    rw [← bad _ _ rfl hX]
    clear bad hX hE'
    go_enter Tryz.func82, Tryz.ntmps82
    go_wp2_with (first
       | (go_at_call 80; refine (c1 _).mono ?_; rintro e w1 ⟨rfl, hb⟩; have hB := hb.alloc hb.size (.cells #[.int .i64 5, .int .i64 G, .string B] 115); have P := box3_new w1 (.int .i64 5) (.int .i64 G) (.string B) 115; obtain ⟨⟨p0, p1, p2⟩, -⟩ := id P; clear hb)
     )
    go_ret3
    exact ⟨rfl, hB⟩
  ·
   rw [if_neg h1] at hE'
   have h1' : (K == 5) = false := by simpa using h1
   have hX : X = 40 ∧ ¬ (40 : Int) = 0 := ⟨hE', by decide⟩
   rw [← bad _ _ rfl hX]
   clear bad hX hE'
   go_enter Tryz.func82, Tryz.ntmps82
   go_wp2_with (first
      | (go_at_call 80; refine (c1 _).mono ?_; rintro e w1 ⟨rfl, hb⟩; have hB := hb.alloc hb.size (.cells #[.int .i64 K, .int .i64 G, .string B] 115); have P := box3_new w1 (.int .i64 K) (.int .i64 G) (.string B) 115; obtain ⟨⟨p0, p1, p2⟩, -⟩ := id P; clear hb)
    )
   go_ret3
   exact ⟨rfl, hB⟩
 ·
  rw [if_neg h0] at hE'
  have h0' : (E == 0) = false := by simpa using h0
  have hX : X = E ∧ ¬ E = 0 := ⟨hE', h0⟩
  rw [← bad _ _ rfl hX]
  clear bad hX hE'
  go_enter Tryz.func82, Tryz.ntmps82
  go_wp2_with (first
     | (go_at_call 80; refine (c1 _).mono ?_; rintro e w1 ⟨rfl, hb⟩; have hB := hb.alloc hb.size (.cells #[.int .i64 K, .int .i64 G, .string B] 115); have P := box3_new w1 (.int .i64 K) (.int .i64 G) (.string B) 115; obtain ⟨⟨p0, p1, p2⟩, -⟩ := id P; clear hb)
   )
  go_ret3
  exact ⟨rfl, hB⟩
set_option maxRecDepth 20000 in
set_option maxHeartbeats 1000000 in
theorem refRingScan_any (g : Int) (a : Option Addr) (c n : Nat) (xs : List ByteArray) (w : World) (hn : n = xs.length) (hS : IsS w a c xs) (hl : n ≤ 4096) :
  Calls Tryz.prog 40 #[.int .i64 g, .slice a n c] w fun e w' => ∃ a' c', e = .returned (.slice a' (scanR g 0 xs).length c') ∧ IsS w' a' c' (scanR g 0 xs) ∧ Below w.heap.size w w' := by
 have HS : Hid (IsS w a c xs) := hS
 have HN : Hid (n = xs.length) := hn
 have fin : ∀ (j : Nat) (b : Value) (wr : World), wr.ownsRow w.heap.size 9 1 b j (((xs.take j).map fun x => rgB x g).map Value.string) → scanR g 0 xs = (xs.take j).map (fun x => rgB x g) → ∃ a' c', b = .slice a' (scanR g 0 xs).length c' ∧ IsS wr a' c' (scanR g 0 xs) := by
  intro j b wr hown hsc
  obtain ⟨a', c', hb, hj, hI, _⟩ := owns_S hown (fun x hx => by
   obtain ⟨y, _, rfl⟩ := List.mem_map.1 hx
   have := rgB_size y g
   unfold maxLen; omega)
  rw [hsc]
  refine ⟨a', c', ?_, hI⟩
  rw [← hj]; exact hb
 have FIN : Hid _ := fin
 clear hn hS fin
 go_enter Tryz.func40, Tryz.ntmps40
 go_wp2
 go_loopw [5, 14] (fun b v wr => ∃ j : Nat, j ≤ n ∧ v = .int .i64 j ∧ wr.ownsRow w.heap.size 9 1 b j (((xs.take j).map fun x => rgB x g).map Value.string) ∧ Hid (AllR g xs j) ∧ Below w.heap.size w wr) (fun _ v _ => n - (intOf v).toNat)
 case atStart => exact ⟨0, by omega, rfl, World.ownsRow_made _ _ 0 (Nat.le_refl _) (by decide) rfl, fun i x hi => by omega, (Below.refl _ _).alloc (Nat.le_refl _) _⟩
 case round =>
  obtain ⟨j, hj, rfl, hown, hAll, hB⟩ := hrel
  by_cases hlt : j < n
  ·
   obtain ⟨x, hx⟩ : ∃ x, xs[j]? = some x := ⟨_, List.getElem?_eq_getElem (by rw [← HN.out]; exact hlt)⟩
   obtain ⟨bk, o, rfl, hbk, d0, hxs⟩ := HS.out.2.2 j x hx
   replace d0 := cell_below hB d0
   have c1 := fun W => refRingGet_any x g W hxs
   have hjn : (j : Int) < n := by omega
   have HX : Hid (xs[j]? = some x) := hx
   have hE : Hid (rgE x g = rgE x g) := rfl
   obtain ⟨E, hEE⟩ : ∃ E, E = rgE x g := ⟨_, rfl⟩
   obtain ⟨N, hNN⟩ : ∃ N, N = rgN x g := ⟨_, rfl⟩
   obtain ⟨B, hBB⟩ : ∃ B, B = rgB x g := ⟨_, rfl⟩
   rw [← hEE, ← hNN, ← hBB] at c1
   have stop : Hid (¬ (E = 0 ∧ N = j) → scanR g 0 xs = (xs.take j).map (fun x => rgB x g)) := fun h => scan_stop hAll.out (fun y hy => by
    rw [HX.out] at hy
    obtain rfl := Option.some.inj hy
    rw [← hEE, ← hNN]; exact h)
   have goes : Hid (E = 0 ∧ N = j → AllR g xs (j + 1)) := fun h i y hi hy => by
    by_cases hij : i = j
    ·
     subst hij
     rw [HX.out] at hy
     obtain rfl := Option.some.inj hy
     rw [← hEE, ← hNN]; exact h
    ·
     exact hAll.out i y (by omega) hy
   have hnext : Hid ((xs.take (j + 1)).map (fun x => rgB x g) = (xs.take j).map (fun x => rgB x g) ++ [B]) := by
    show _ = _
    rw [List.take_add_one, HX.out, Option.toList_some, List.map_append, hBB]
    rfl
   replace hown : Hid _ := hown
   clear hx hE hEE hNN hBB
   by_cases h0 : E = 0
   ·
    by_cases h1 : N = j
    ·
     have HG : Hid (AllR g xs (j + 1)) := goes.out ⟨h0, h1⟩
     subst h0 h1
     clear goes stop
     go_wp2_with (first
      | (go_at_call 82; refine (c1 _).mono ?_; rintro e w2 ⟨rfl, hb⟩; have hB2 := Below.tr hB hb; have hown2 := (Turns.of_below (P := fun _ => False) hb).owns hown.out (fun _ _ h => h); obtain ⟨g', cap, w3, hrun, hown3, hgr, hat, hge, hlt'⟩ := push_S w2 w.heap.size u5 j _ B hown2 hB2.size (by omega); have hB3 : Below w.heap.size w w3 := (hB2.alloc hB2.size _).grown hgr (by simp; exact Nat.le_succ_of_le hB2.size) (fun k hk => (hown2.lt k hk).1); have HO3 : Hid _ := hown3; clear hb hown2 hgr hat hge hlt' hown3)
      | (at_builtin; refine Lib.wpList_append_run _ rfl _ _ _ _ rfl _ _ rfl rfl _ _ hrun ?_))
     go_roundw
     case rel => exact ⟨j + 1, by omega, by go_num, by rw [hnext.out]; exact HO3.out, HG.out, hB3⟩
     case measure => simp [intOf]; omega
    ·
     have h1' : (N == (j : Int)) = false := by simpa using h1
     have HF : Hid (scanR g 0 xs = (xs.take j).map (fun x => rgB x g)) := stop.out (fun h => h1 h.2)
     subst h0
     clear goes stop hnext
     go_wp2_with (go_at_call 82; refine (c1 _).mono ?_; rintro e w2 ⟨rfl, hb⟩; have hB2 := Below.tr hB hb; have hown2 := (Turns.of_below (P := fun _ => False) hb).owns hown.out (fun _ _ h => h); clear hb)
     obtain ⟨a', c', e, hI⟩ := FIN.out j _ _ hown2 HF.out
     go_ret
     exact ⟨a', c', by rw [← e]; rfl, hI, hB2⟩
   ·
    have h0' : (E == 0) = false := by simpa using h0
    have HF : Hid (scanR g 0 xs = (xs.take j).map (fun x => rgB x g)) := stop.out (fun h => h0 h.1)
    clear goes stop hnext
    go_wp2_with (go_at_call 82; refine (c1 _).mono ?_; rintro e w2 ⟨rfl, hb⟩; have hB2 := Below.tr hB hb; have hown2 := (Turns.of_below (P := fun _ => False) hb).owns hown.out (fun _ _ h => h); clear hb)
    obtain ⟨a', c', e, hI⟩ := FIN.out j _ _ hown2 HF.out
    go_ret
    exact ⟨a', c', by rw [← e]; rfl, hI, hB2⟩
  ·
   obtain rfl : j = n := by omega
   have HF : Hid (scanR g 0 xs = (xs.take j).map (fun x => rgB x g)) := by
    have := hAll.out
    show _ = _
    have hl := HN.out
    exact scan_stop this (fun x hx => by rw [List.getElem?_eq_none (by omega)] at hx; cases hx)
   replace hown : Hid _ := hown
   go_wp2
   obtain ⟨a', c', e, hI⟩ := FIN.out j _ _ hown.out HF.out
   go_ret
   exact ⟨a', c', by rw [← e]; rfl, hI, hB⟩
set_option maxRecDepth 20000 in
theorem small14_any (a a' : Option Addr) (n n' c c' : Nat) (w : World) (hn : n ≤ maxLen) (hn' : n' ≤ maxLen) :
  Calls Tryz.prog 11 #[.agg #[.slice a n c, .slice a' n' c']] w fun e w' => e = .returned (.bool (decide (n ≤ 200 ∧ n' ≤ 200))) ∧ Below w.heap.size w w' := by
 have bD := boxL_new w [.slice a n c, .slice a' n' c'] 25 rfl
 have hC := (Below.refl w.heap.size w).alloc (Nat.le_refl _) (.cells #[.slice a n c, .slice a' n' c'] 25)
 have d0 := bD.1 0 _ rfl
 have d1 := bD.1 1 _ rfl
 by_cases h : n ≤ 200
 ·
  have h' : (n : Int) ≤ 200 := by omega
  by_cases k : n' ≤ 200
  ·
   have k' : (n' : Int) ≤ 200 := by omega
   go_enter Tryz.func11, Tryz.ntmps11
   go_wp2
   go_ret
   exact ⟨ret_bool (by first | rfl | simp [h, k]), hC⟩
  ·
   have k' : ¬ (n' : Int) ≤ 200 := by omega
   go_enter Tryz.func11, Tryz.ntmps11
   go_wp2
   go_ret
   exact ⟨ret_bool (by first | rfl | simp [h, k]), hC⟩
 ·
  have h' : ¬ (n : Int) ≤ 200 := by omega
  go_enter Tryz.func11, Tryz.ntmps11
  go_wp2
  go_ret
  exact ⟨ret_bool (by first | rfl | simp [h]), hC⟩
def BlocksC (w : World) (x : Ending) (w' : World) (l : List Int) (E : Int) : Prop :=
 ∃ q N d, x = .returned (.tuple #[.slice q N d, .int .i64 E]) ∧ N = l.length ∧ IsI w' q d l ∧ From w.heap.size q ∧ Below w.heap.size w w'
set_option maxRecDepth 20000 in
set_option maxHeartbeats 2000000 in
theorem refIn_any (a : Option Addr) (c n : Nat) (l : List Int) (x : Int) (w : World) (hn : n = l.length) (hI : IsI w a c l) :
  Calls Tryz.prog 98 #[.slice a n c, .int .i64 x] w fun e w' => e = .returned (.bool (decide (x ∈ l))) ∧ Below w.heap.size w w' := by
 have mn : n ≤ 9223372036854775807 := by rw [hn]; exact Nat.le_trans hI.1 hI.2.1
 obtain ⟨r, hr⟩ : ∃ r, r = decide (x ∈ l) := ⟨_, rfl⟩
 rw [← hr]
 have HR : Hid (r = decide (x ∈ l)) := hr
 have EN : Hid (n = l.length) := hn
 have RI : Hid (IsI w a c l) := hI
 clear hr hn hI
 go_enter Tryz.func98, Tryz.ntmps98
 go_wp2
 go_loopw [9] (fun v wr => ∃ j : Nat, j ≤ n ∧ v = .int .i64 j ∧ (∀ i y, i < j → l[i]? = some y → y ≠ x) ∧ Below w.heap.size w wr) (fun v _ => n - (intOf v).toNat)
 case atStart => exact ⟨0, by omega, rfl, fun i q hi => by omega, Below.refl _ _⟩
 case round =>
  obtain ⟨j, hj, rfl, hA, HB⟩ := hrel
  have HA : Hid (∀ i y, i < j → l[i]? = some y → y ≠ x) := hA
  clear hA
  by_cases hlt : j < n
  ·
   have hlt' : (j : Int) < n := by omega
   obtain ⟨y, hp⟩ : ∃ x, Hid (l[j]? = some x) := ⟨_, List.getElem?_eq_getElem (by rw [← EN.out]; exact hlt)⟩
   obtain ⟨b, o, rfl, -, hc0⟩ := RI.out.2.2 j y hp.out
   have z0 := cell_below HB hc0
   clear hc0
   by_cases hk : y = x
   ·
    subst hk
    have hk' : (y == y) = true := by simp
    have hf : r = true := by rw [HR.out]; exact decide_eq_true (List.mem_of_getElem? hp.out)
    subst hf
    go_wp2
    go_ret
    exact ⟨rfl, HB⟩
   ·
    have hk' : (y == x) = false := by simpa using hk
    go_wp2
    go_roundw
    case rel =>
     refine ⟨j + 1, by omega, by go_num, fun i q hi hq => ?_, HB⟩
     by_cases hij : i = j
     ·
      subst hij
      rw [hp.out] at hq
      cases hq
      exact hk
     ·
      exact HA.out i q (by omega) hq
    case measure => simp [intOf]; omega
  ·
   obtain rfl : n = j := by omega
   have hj0 : ¬ (n : Int) < n := by omega
   have hf : r = false := by
    rw [HR.out]
    refine decide_eq_false fun h => ?_
    obtain ⟨i, hi⟩ := List.mem_iff_getElem?.1 h
    exact HA.out i x (by rw [EN.out]; exact (List.getElem?_eq_some_iff.1 hi).1) hi rfl
   subst hf
   go_wp2
   go_ret
   exact ⟨rfl, HB⟩
def BlocksO (w : World) (x : Ending) (w' : World) (l : List Int) (E : Int) : Prop :=
 ∃ u q, x = .returned (.tuple #[u, .int .i64 E]) ∧ w'.ownsRow w.heap.size 3 1 u q (l.map (Value.int .i64)) ∧ Below w.heap.size w w'
theorem blocksO_nil {w w' : World} {E : Int} (hb : Below w.heap.size w w') : BlocksO w (.returned (.tuple #[.slice none 0 0, .int .i64 E])) w' [] E := ⟨_, 0, rfl, ⟨rfl, .inl ⟨rfl, rfl⟩⟩, hb⟩
theorem BlocksO.told {w : World} {x : Ending} {w' : World} {l : List Int} {E : Int} (h : BlocksO w x w' l E) : BlocksC w x w' l E := by
 obtain ⟨u, q, rfl, hown, hb⟩ := h
 obtain ⟨q1, d1, rfl, hq, hI, hF⟩ := owns_I hown
 exact ⟨q1, q, d1, rfl, hq, hI, hF, hb⟩
theorem owns_empty (w : World) : (w.alloc (.cells #[] 3)).ownsRow w.heap.size 3 1 (.slice (some ⟨w.heap.size, 0, none⟩) 0 0) 0 (([] : List Int).map (Value.int .i64)) := by
 refine ⟨rfl, .inr ⟨w.heap.size, 0, #[], rfl, Nat.le_refl _, heap_new w _, Nat.le_refl _, Nat.zero_le _, by simp, by simp⟩⟩
theorem owns_lower {w : World} {B B' : Nat} {e : TypeId} {s : Nat} {v : Value} {n : Nat} {xs : List Value} (h : w.ownsRow B e s v n xs) (hb : B' ≤ B) : w.ownsRow B' e s v n xs := by
 obtain ⟨h1, h2⟩ := h
 refine ⟨h1, ?_⟩
 rcases h2 with h2 | ⟨g, cap, cur, hv, hg, r⟩
 ·
  exact .inl h2
 ·
  exact .inr ⟨g, cap, cur, hv, Nat.le_trans hb hg, r⟩
set_option maxRecDepth 20000 in
set_option maxHeartbeats 4000000 in
theorem refBlocks_any (a a' b : Option Addr) (n c n' c' p f : Nat) (bs ns : List Bool) (ps : List ByteArray) (root gen : Int) (w : World) (hn : n = bs.length) (hn' : n' = ns.length) (hp : p = ps.length) (hB : IsB w a c bs) (hB' : IsB w a' c' ns) (hP : IsS w b f ps) :
  Calls Tryz.prog 96 #[.agg #[.slice a n c, .slice a' n' c', .slice b p f, .int .i64 root, .int .i64 gen]] w fun x w' => BlocksO w x w' (blocksR (rightW bs ns ps root gen) ns (treeS ns ps root gen)) (blocksE (rightW bs ns ps root gen) (treeS ns ps root gen)) := by
 obtain ⟨W, hW⟩ : ∃ W, W = w.alloc (.cells #[.slice a n c, .slice a' n' c', .slice b p f, .int .i64 root, .int .i64 gen] 40) := ⟨_, rfl⟩
 have HB : Below w.heap.size w W := by rw [hW]; exact (Below.refl _ _).alloc (Nat.le_refl _) _
 have BW : WoodBox W w.heap.size (.slice a n c) (.slice a' n' c') (.slice b p f) (.int .i64 root) (.int .i64 gen) := by rw [hW]; exact woodBox_new _ _ _ _ _ _ _ rfl
 have cR := refRightW_any a a' b n c n' c' p f bs ns ps root gen W hn hn' hp (hB.below HB) (hB'.below HB) (hP.below HB)
 have cT : ∀ V, Below w.heap.size w V → Calls Tryz.prog 97 #[.agg #[.slice a n c, .slice a' n' c', .slice b p f, .int .i64 root, .int .i64 gen]] V fun x w' => ∃ u1 u2, x = .returned (.pointer (some ⟨V.heap.size + 1, 0, none⟩)) ∧ TreeAt w' (V.heap.size + 1) (V.heap.size + 2) u1 u2 (treeS ns ps root gen) ∧ Below V.heap.size V w' := fun V hV => tree_any a a' b n c n' c' p f ns ps root gen V hn' hp (hB'.below hV) (hP.below hV)
 obtain ⟨t, ht⟩ : ∃ t, t = treeS ns ps root gen := ⟨_, rfl⟩
 rw [← ht] at cT ⊢
 obtain ⟨x0, x1, x2, x3, x4⟩ := id (hW ▸ BW)
 cases hr : rightW bs ns ps root gen with
 | false =>
  rw [hr] at cR
  have e1 : blocksE false t = 1 := by unfold blocksE; rw [if_neg (by decide)]
  have e2 : blocksR false ns t = [] := by unfold blocksR; rw [e1, if_neg (by decide)]
  rw [e1, e2]
  clear hn hn' hp hB hB' hP hr ht e1 e2
  go_enter Tryz.func96, Tryz.ntmps96
  go_wp2_with (
   (go_at_call 58; rw [← hW]; refine cR.mono ?_; rintro y w1 ⟨rfl, hb⟩; replace HB := Below.tr HB hb; replace BW := BW.below hb; clear x0 x1 x2 x3 x4; obtain ⟨x0, x1, x2, x3, x4⟩ := id BW; clear hb))
  refine bodyPost_ret (v := .tuple #[.slice none 0 0, .int .i64 1]) (by simp [results, Tryz.results96, go_sem]) rfl ?_
  exact blocksO_nil HB
 | true =>
  rw [hr] at cR
  obtain ⟨-, h24, h2048, -⟩ := (rightA_iff bs ns).1 (rightW_now hr)
  have mn : n' ≤ 2048 := by omega
  cases hb : t.bad with
  | true =>
   have e1 : blocksE true t = 81 := by unfold blocksE; rw [if_pos rfl, if_pos hb]
   have e2 : blocksR true ns t = [] := by unfold blocksR; rw [e1, if_neg (by decide)]
   rw [e1, e2]
   have Hb : Hid (t.bad = true) := hb
   clear hn hn' hp hB hB' hP hr ht e1 e2 h24 h2048 hb
   go_enter Tryz.func96, Tryz.ntmps96
   go_wp2_with (first
    | (go_at_call 58; rw [← hW]; refine cR.mono ?_; rintro y w1 ⟨rfl, hb⟩; replace HB := Below.tr HB hb; replace BW := BW.below hb; clear x0 x1 x2 x3 x4; obtain ⟨x0, x1, x2, x3, x4⟩ := id BW; clear hb)
    | (go_at_call 97; refine (cT _ HB).mono ?_; rintro y w2 ⟨u1, u2, rfl, D, hb⟩; replace HB := Below.tr HB hb; obtain ⟨⟨q0, q1, q2, q3⟩, -⟩ := id D.box; rw [Hb.out] at q3; clear x0 x1 x2 x3 x4))
   refine bodyPost_ret (v := .tuple #[.slice none 0 0, .int .i64 81]) (by simp [results, Tryz.results96, go_sem]) rfl ?_
   exact blocksO_nil HB
  | false =>
   have e1 : blocksE true t = 0 := by unfold blocksE; rw [if_pos rfl, if_neg (by rw [hb]; decide)]
   have e2 : blocksR true ns t = blocksL n' t.blocks := by unfold blocksR; rw [e1, if_pos rfl, hn']
   rw [e1, e2]
   have Hb : Hid (t.bad = false) := hb
   have HT : Hid (blocksL 0 t.blocks = []) := rfl
   clear hn hn' hp hB hB' hP hr ht e1 e2 h24 h2048 hb
   go_enter Tryz.func96, Tryz.ntmps96
   go_wp2_with (first
    | (go_at_call 58; rw [← hW]; refine cR.mono ?_; rintro y w1 ⟨rfl, hb⟩; replace HB := Below.tr HB hb; replace BW := BW.below hb; clear x0 x1 x2 x3 x4; obtain ⟨x0, x1, x2, x3, x4⟩ := id BW; clear hb)
    | (go_at_call 97; refine (cT _ HB).mono ?_; rintro y w2 ⟨u1, u2, rfl, D, hb⟩; replace HB := Below.tr HB hb; replace BW := BW.below hb; clear x0 x1 x2 x3 x4; obtain ⟨x0, x1, x2, x3, x4⟩ := id BW; obtain ⟨⟨q0, q1, q2, q3⟩, -⟩ := id D.box; rw [Hb.out] at q3; have x1' := cell_alloc x1 (.cells #[] 3)))
   have hw2 := HB.size
   have HD : Hid (TreeAt w2 (w1.heap.size + 1) (w1.heap.size + 2) u1 u2 t) := D
   clear D x0 x1 x2 x3 x4 q0 q1 q2 q3 x1'
   have O0 := owns_empty w2
   have A0 : Below w2.heap.size w2 (w2.alloc (.cells #[] 3)) := (Below.refl _ _).alloc (Nat.le_refl _) _
   go_loopw [5, 21] (fun u v wr => ∃ (j q : Nat), j ≤ n' ∧ v = .int .i64 j ∧ q ≤ j ∧ wr.ownsRow w2.heap.size 3 1 u q ((blocksL j t.blocks).map (Value.int .i64)) ∧ Below w2.heap.size w2 wr) (fun _ v _ => n' - (intOf v).toNat)
   case atStart => exact ⟨0, 0, by omega, rfl, by omega, by rw [HT.out]; exact O0, A0⟩
   case round =>
    clear O0 A0
    obtain ⟨j, q, hj, rfl, hqj, hown, HB2⟩ := hrel
    have D := HD.out.below HB2
    obtain ⟨bq, dq, he2, hq2, hI2, -⟩ := owns_I D.r2
    have x1 := D.box.1.2.1
    subst he2
    have HO : Hid (wr.ownsRow w2.heap.size 3 1 u5 q ((blocksL j t.blocks).map (Value.int .i64))) := hown
    clear hown
    by_cases hlt : j < n'
    ·
     have hlt' : (j : Int) < n' := by omega
     have cI := refIn_any bq dq t.blocks.length t.blocks j wr rfl hI2
     have hst := blocksL_step (l := t.blocks) (j := j)
     have hdc : decide ((j : Int) ∈ t.blocks) = t.blocks.contains (j : Int) := by rw [Bool.eq_iff_iff]; simp
     rw [hdc] at cI
     obtain ⟨x, hx⟩ : ∃ x, x = t.blocks.contains (j : Int) := ⟨_, rfl⟩
     rw [← hx] at cI hst
     have HS : Hid (blocksL (j + 1) t.blocks = if x = true then blocksL j t.blocks ++ [(j : Int)] else blocksL j t.blocks) := hst
     obtain ⟨kt, hkt⟩ : ∃ k, k = t.blocks.length := ⟨_, rfl⟩
     rw [← hkt] at cI x1
     clear hx D hst hdc hI2 hq2 hkt
     cases x with
     | false =>
      have hfin : Hid (wr.ownsRow w2.heap.size 3 1 u5 q ((blocksL (j + 1) t.blocks).map (Value.int .i64))) := by rw [HS.out, if_neg (by decide)]; exact HO.out
      clear HO HS
      go_wp2_with (go_at_call 98; refine cI.mono ?_; rintro y w3 ⟨rfl, hb3⟩; have HB3 := Below.tr HB2 hb3; have HF3 : Hid (w3.ownsRow w2.heap.size 3 1 u5 q ((blocksL (j + 1) t.blocks).map (Value.int .i64))) := (Turns.of_below (P := fun _ => False) hb3).owns hfin.out (fun _ _ x => x))
      go_roundw
      case rel => exact ⟨j + 1, q, by omega, by go_num, by omega, HF3.out, HB3⟩
      case measure => simp [intOf]; omega
     | true =>
      go_wp2_with (first
       | (go_at_call 98; refine cI.mono ?_; rintro y w3 ⟨rfl, hb3⟩; have HB3 := Below.tr HB2 hb3; have HO3 : w3.ownsRow w2.heap.size 3 1 u5 q ((blocksL j t.blocks).map (Value.int .i64)) := (Turns.of_below (P := fun _ => False) hb3).owns HO.out (fun _ _ x => x); obtain ⟨g2, cap2, U, hrun, hown2, hgr, hat, hge, hlt2⟩ := push_Zl w3 w2.heap.size u5 q (blocksL j t.blocks) j HO3 HB3.size (by omega); have HB4 : Below w2.heap.size w2 U := Below.turns (P := fun k => w2.heap.size ≤ k) HB3 (((Turns.refl _ _).alloc _).grown hgr (fun k hk => (HO3.lt k hk).1)) (fun k hk => hk); have hfin : Hid (U.ownsRow w2.heap.size 3 1 (.slice (some ⟨g2, 0, none⟩) (q + 1) cap2) (q + 1) ((blocksL (j + 1) t.blocks).map (Value.int .i64)) ∧ Below w2.heap.size w2 U) := (by rw [HS.out, if_pos rfl]; exact ⟨hown2, HB4⟩); clear HO HS hown2 HB4 hgr hat hge hlt2 HO3)
       | (at_builtin; refine Lib.wpList_append_run _ rfl _ _ _ _ rfl _ _ rfl rfl _ _ hrun ?_))
      go_roundw
      case rel => exact ⟨j + 1, q + 1, by omega, by go_num, by omega, hfin.out.1, hfin.out.2⟩
      case measure => simp [intOf]; omega
    ·
     obtain rfl : n' = j := by omega
     have hj0 : ¬ (n' : Int) < n' := by omega
     clear D
     go_wp2
     refine bodyPost_ret (v := .tuple #[u5, .int .i64 0]) (by simp [results, Tryz.results96, go_sem]) rfl ?_
     exact ⟨u5, q, rfl, owns_lower HO.out (by omega), Below.tr HB HB2⟩
structure LocR (lo : Nat) (V1 V : World) (u : Value) : Prop where
 st : Turns (fun k => k < lo) V1 V
 fr : ∀ g, u.ownBlock = some g → g < lo ∨ V1.heap.size ≤ g
theorem LocR.below {lo : Nat} {V1 V V' : World} {u : Value} (l : LocR lo V1 V u) (hb : Below V.heap.size V V') : LocR lo V1 V' u := ⟨l.st.tr hb, l.fr⟩
theorem LocR.push {lo : Nat} {V1 V V' : World} {u : Value} {o : Obj} {g n cap : Nat} (l : LocR lo V1 V u) (hg : (V.alloc o).grownBy V' u.ownBlock) (hat : u.ownBlock = some g ∨ g = V.heap.size + 1) : LocR lo V1 V' (.slice (some ⟨g, 0, none⟩) n cap) := by
 have hs := l.st.size
 have t1 : Turns (fun k => u.ownBlock = some k) V V' := ((Turns.refl _ _).alloc _).grown hg (fun k hk => hk)
 refine ⟨⟨t1.os.trans l.st.os, t1.tape.trans l.st.tape, t1.output.trans l.st.output, Nat.le_trans hs t1.size, fun k hk hp => ?_⟩, fun k hk => ?_⟩
 ·
  refine (t1.block k (by omega) (fun e => ?_)).trans (l.st.block k hk hp)
  rcases l.fr k e with e | e
  ·
   exact hp e
  ·
   omega
 ·
  simp [Value.ownBlock] at hk
  subst hk
  rcases hat with e | e
  ·
   exact l.fr g e
  ·
   exact .inr (by omega)
theorem owns_sees {w : World} {B : Nat} {e : TypeId} {s : Nat} {v : Value} {n : Nat} {xs : List Value} (h : w.ownsRow B e s v n xs) : ∃ a c, v = .slice a n c := by
 rcases h.2 with ⟨h1, h2⟩ | ⟨g, cap, cur, h1, _⟩
 ·
  exact ⟨none, 0, by rw [h1, h2]⟩
 ·
  exact ⟨_, _, h1⟩
theorem owns_few {w : World} {B : Nat} {e : TypeId} {s : Nat} {v : Value} {n : Nat} {xs : List Value} (h : w.ownsRow B e s v n xs) : n ≤ maxLen := by
 rcases h.2 with ⟨h1, h2⟩ | ⟨g, cap, cur, h1, hg, hh, hnc, hcm, _⟩
 ·
  omega
 ·
  omega
set_option maxRecDepth 20000 in
set_option maxHeartbeats 4000000 in
theorem refCheck_any (a a' b : Option Addr) (n c n' c' p f : Nat) (bs ns : List Bool) (ps : List ByteArray) (root gen : Int) (am : Option Addr) (cm nm : Nat) (ms : List Int) (w : World) (hn : n = bs.length) (hn' : n' = ns.length) (hp : p = ps.length) (hm : nm = ms.length) (hB : IsB w a c bs) (hB' : IsB w a' c' ns) (hP : IsS w b f ps) (hI : IsI w am cm ms) (hm20 : nm ≤ 1000) :
  Calls Tryz.prog 53 #[.agg #[.slice a n c, .slice a' n' c', .slice b p f, .int .i64 root, .int .i64 gen], .slice am nm cm] w fun x w' => x = .returned (.tuple #[.agg #[.int .i64 (checkP (rightW bs ns ps root gen) ns (treeS ns ps root gen) ms), .int .i64 (checkH (rightW bs ns ps root gen) ns (treeS ns ps root gen) ms), .int .i64 (checkB (rightW bs ns ps root gen) ns (treeS ns ps root gen) ms)], .int .i64 (checkE (rightW bs ns ps root gen) ns (treeS ns ps root gen) ms)]) ∧ Below w.heap.size w w' := by
 obtain ⟨W, hW⟩ : ∃ W, W = (w.alloc (.cells #[.slice a n c, .slice a' n' c', .slice b p f, .int .i64 root, .int .i64 gen] 40)).alloc (.cells #[.int .i64 0, .int .i64 0, .int .i64 0] 96) := ⟨_, rfl⟩
 have HB : Below w.heap.size w W := by rw [hW]; exact ((Below.refl _ _).alloc (Nat.le_refl _) _).alloc (by simp) _
 have BW : WoodBox W w.heap.size (.slice a n c) (.slice a' n' c') (.slice b p f) (.int .i64 root) (.int .i64 gen) := by rw [hW]; exact (woodBox_new _ _ _ _ _ _ _ rfl).below ((Below.refl _ _).alloc (Nat.le_refl _) _)
 have BR : Box3 W (w.heap.size + 1) (.int .i64 0) (.int .i64 0) (.int .i64 0) := by rw [hW]; have := box3_new (w.alloc (.cells #[.slice a n c, .slice a' n' c', .slice b p f, .int .i64 root, .int .i64 gen] 40)) (.int .i64 0) (.int .i64 0) (.int .i64 0) 96; simpa using this
 have hWs : W.heap.size = w.heap.size + 2 := by rw [hW]; simp
 have cL := refBlocks_any a a' b n c n' c' p f bs ns ps root gen W hn hn' hp (hB.below HB) (hB'.below HB) (hP.below HB)
 have cT : ∀ V, Below w.heap.size w V → Calls Tryz.prog 97 #[.agg #[.slice a n c, .slice a' n' c', .slice b p f, .int .i64 root, .int .i64 gen]] V fun x w' => ∃ u1 u2, x = .returned (.pointer (some ⟨V.heap.size + 1, 0, none⟩)) ∧ TreeAt w' (V.heap.size + 1) (V.heap.size + 2) u1 u2 (treeS ns ps root gen) ∧ Below V.heap.size V w' := fun V hV => tree_any a a' b n c n' c' p f ns ps root gen V hn' hp (hB'.below hV) (hP.below hV)
 obtain ⟨t, ht⟩ : ∃ t, t = treeS ns ps root gen := ⟨_, rfl⟩
 rw [← ht] at cT cL ⊢
 obtain ⟨x0, x1, x2, x3, x4⟩ := id (hW ▸ BW)
 obtain ⟨⟨r0, r1, r2⟩, f0, f1, f2⟩ := id (hW ▸ BR)
 obtain ⟨r, hr⟩ : ∃ r, r = rightW bs ns ps root gen := ⟨_, rfl⟩
 rw [← hr] at cL ⊢
 obtain ⟨rE, hE⟩ : ∃ x, x = checkE r ns t ms := ⟨_, rfl⟩
 obtain ⟨rP, hP'⟩ : ∃ x, x = checkP r ns t ms := ⟨_, rfl⟩
 obtain ⟨rH, hH⟩ : ∃ x, x = checkH r ns t ms := ⟨_, rfl⟩
 obtain ⟨rB, hBB⟩ : ∃ x, x = checkB r ns t ms := ⟨_, rfl⟩
 rw [← hE, ← hP', ← hH, ← hBB]
 have hbad : ∀ e, e ≠ 0 → checkE r ns t ms = e → Hid (rP = 0 ∧ rH = 0 ∧ rB = 0 ∧ rE = e) := fun e he h81 => by
  have hz := check_err h81 he
  exact ⟨hP'.trans hz.1, hH.trans hz.2.1, hBB.trans hz.2.2, hE.trans h81⟩
 obtain ⟨eB, hEB⟩ : ∃ e, e = blocksE r t := ⟨_, rfl⟩
 obtain ⟨LB, hLB⟩ : ∃ l, l = blocksR r ns t := ⟨_, rfl⟩
 rw [← hEB, ← hLB] at cL
 by_cases he0 : eB = 0
 ·
  subst he0
  have hrt : r = true ∧ t.bad = false := by
   unfold blocksE at hEB
   cases r with
   | false => simp at hEB
   | true => cases hb : t.bad with
    | false => exact ⟨rfl, rfl⟩
    | true => rw [hb] at hEB; simp at hEB
  have hLB' : LB = blocksL n' t.blocks := by rw [hLB]; unfold blocksR; rw [← hEB, if_pos rfl, hn']
  obtain ⟨hr1, hb⟩ := hrt
  rw [hr1] at hr hbad hE hP' hH hBB
  obtain ⟨-, h24, h2048, -⟩ := (rightA_iff bs ns).1 (rightW_now hr.symm)
  have mn : n' ≤ 2048 := by omega
  have hpos : checkOK ns t ms = true → Hid (rP = (t.pairs.length : Int) ∧ rH = t.height ∧ rB = (t.blocks.length : Int) ∧ rE = 0) := fun hok => by
   have h0 := check_ok hb hok
   refine ⟨hP'.trans ?_, hH.trans ?_, hBB.trans ?_, hE.trans h0⟩
   ·
    unfold checkP; rw [h0, if_pos rfl]
   ·
    unfold checkH; rw [h0, if_pos rfl]
   ·
    unfold checkB; rw [h0, if_pos rfl]
  have hneg : checkOK ns t ms = false → Hid (rP = 0 ∧ rH = 0 ∧ rB = 0 ∧ rE = 81) := fun hno => hbad 81 (by decide) (check_not hno)
  obtain ⟨M, hM⟩ : ∃ M, M = moreL n' LB ms := ⟨_, rfl⟩
  have HC : Hid (∀ l, M = some l → checkOK ns t ms = justL ns l) := fun l hl => by unfold checkOK; rw [← hn', ← hLB', ← hM, hl]
  have HC0 : Hid (M = none → checkOK ns t ms = false) := fun hl => by unfold checkOK; rw [← hn', ← hLB', ← hM, hl]
  have HM : Hid (M = moreL n' LB (ms.drop 0)) := hM
  have HPOS : Hid (checkOK ns t ms = true → Hid (rP = (t.pairs.length : Int) ∧ rH = t.height ∧ rB = (t.blocks.length : Int) ∧ rE = 0)) := hpos
  have HNEG : Hid (checkOK ns t ms = false → Hid (rP = 0 ∧ rH = 0 ∧ rB = 0 ∧ rE = 81)) := hneg
  have EM : Hid (nm = ms.length) := hm
  have EN : Hid (n' = ns.length) := hn'
  have RI : Hid (IsI w am cm ms) := hI
  have RN : Hid (IsB w a' c' ns) := hB'
  have hLl : LB.length ≤ n' := by rw [hLB']; unfold blocksL; rw [List.length_map]; exact Nat.le_trans (List.length_filter_le _ _) (by simp)
  clear hn hn' hp hB hB' hP hm hI hr ht hE hP' hH hBB hbad hEB hLB h24 h2048 hb hr1 hLB' hpos hneg hM
  have HBR : Hid (Box3 W (w.heap.size + 1) (.int .i64 0) (.int .i64 0) (.int .i64 0) ∧ WoodBox W w.heap.size (.slice a n c) (.slice a' n' c') (.slice b p f) (.int .i64 root) (.int .i64 gen)) := ⟨BR, BW⟩
  have HB0 : Hid (Below w.heap.size w W) := HB
  go_enter Tryz.func53, Tryz.ntmps53
  go_wp2_with (first
   | (go_at_call 96; rw [← hW]; refine cL.mono ?_; rintro y w1 ⟨u, q, rfl, hown, hb⟩; replace HB := Below.tr HB hb; have HW1 := hb; replace BR := BR.below hb; replace BW := BW.below hb; clear x0 x1 x2 x3 x4 r0 r1 r2 f0 f1 f2; obtain ⟨x0, x1, x2, x3, x4⟩ := id BW; obtain ⟨⟨r0, r1, r2⟩, f0, f1, f2⟩ := id BR; clear hb)
   | (go_at_call 97; refine (cT _ HB).mono ?_; rintro y w2 ⟨u1, u2, rfl, D, hb⟩; have hlo := hb.size; replace HB := Below.tr HB hb; replace HW1 := Below.tr HW1 hb; have hown2 : w2.ownsRow W.heap.size 3 1 u q (LB.map (Value.int .i64)) := (Turns.of_below (P := fun _ => False) hb).owns hown (fun _ _ x => x); have hfr : ∀ g, u.ownBlock = some g → g < w1.heap.size := (fun g hg => (hown.lt g hg).2); clear x0 x1 x2 x3 x4 r0 r1 r2 f0 f1 f2 hb hown))
  have HD : Hid (TreeAt w2 (w1.heap.size + 1) (w1.heap.size + 2) u1 u2 t) := D
  have hqL : Hid (q = LB.length) := by have := hown2.1; rw [List.length_map, Nat.mul_one] at this; exact this.symm
  have hq0 : q ≤ 2048 := by have := hqL.out; omega
  have LO0 : LocR w1.heap.size w2 w2 u := ⟨Turns.refl _ _, fun g hg => .inl (hfr g hg)⟩
  clear D BR BW hfr hqL
  go_loopw [6, 26] (fun u v wr => ∃ (j q : Nat) (L : List Int), j ≤ nm ∧ v = .int .i64 j ∧ q ≤ 2048 + j ∧ M = moreL n' L (ms.drop j) ∧ wr.ownsRow W.heap.size 3 1 u q (L.map (Value.int .i64)) ∧ LocR w1.heap.size w2 wr u ∧ Below W.heap.size W wr) (fun _ v _ => nm - (intOf v).toNat)
  case atStart => exact ⟨0, q, LB, by omega, rfl, by omega, HM.out, hown2, LO0, HW1⟩
  case round =>
   clear hown2 LO0 HW1 HM
   obtain ⟨j, q, L, hj, rfl, hqj, hMj, hown, LO, HB2⟩ := hrel
   have HMj : Hid (M = moreL n' L (ms.drop j)) := hMj
   have HO : Hid (wr.ownsRow W.heap.size 3 1 u6 q (L.map (Value.int .i64))) := hown
   clear hMj hown
   have HB := Below.tr HB0.out HB2
   have BR := HBR.out.1.below HB2
   obtain ⟨x0, x1, x2, x3, x4⟩ := HBR.out.2.below HB2
   obtain ⟨⟨r0, r1, r2⟩, f0, f1, f2⟩ := id BR
   obtain ⟨ua, uc, hu, huq, hIL, -⟩ := owns_I HO.out
   subst hu
   have HIL : Hid (IsI wr ua uc L ∧ q = L.length) := ⟨hIL, huq⟩
   clear hIL huq
   by_cases hlt : j < nm
   ·
    have hlt' : (j : Int) < nm := by omega
    obtain ⟨x, hx⟩ : ∃ x, Hid (ms[j]? = some x) := get_some (by rw [← EM.out]; exact hlt)
    obtain ⟨b1, o1, rfl, -, hc⟩ := RI.out.2.2 j x hx.out
    have z := cell_below HB hc
    have hd : Hid (ms.drop j = x :: ms.drop (j + 1)) := by
     obtain ⟨hl, hv⟩ := List.getElem?_eq_some_iff.1 hx.out
     show _ = _
     rw [List.drop_eq_getElem_cons hl, hv]
    clear hc hx
    by_cases h10 : x < 10
    ·
     have HF := HNEG.out (HC0.out (by rw [HMj.out, hd.out, moreL, if_pos (.inl h10)]))
     go_wp2
     obtain ⟨z0, z1, z2⟩ := set3_cells (v0 := .int .i64 0) (v1 := .int .i64 0) (v2 := .int .i64 0) r0 r1 r2
     refine bodyPost_ret (v := .tuple #[.agg #[.int .i64 0, .int .i64 0, .int .i64 0], .int .i64 81]) (by simp [results, Tryz.results53, go_sem, z0, z1, z2]) rfl ?_
     rw [HF.out.1, HF.out.2.1, HF.out.2.2.1, HF.out.2.2.2]
     exact ⟨rfl, below_set3 HB (by omega)⟩
    ·
     by_cases hxn : (n' : Int) ≤ x
     ·
      have HF := HNEG.out (HC0.out (by rw [HMj.out, hd.out, moreL, if_pos (.inr (.inl hxn))]))
      go_wp2
      obtain ⟨z0, z1, z2⟩ := set3_cells (v0 := .int .i64 0) (v1 := .int .i64 0) (v2 := .int .i64 0) r0 r1 r2
      refine bodyPost_ret (v := .tuple #[.agg #[.int .i64 0, .int .i64 0, .int .i64 0], .int .i64 81]) (by simp [results, Tryz.results53, go_sem, z0, z1, z2]) rfl ?_
      rw [HF.out.1, HF.out.2.1, HF.out.2.2.1, HF.out.2.2.2]
      exact ⟨rfl, below_set3 HB (by omega)⟩
     ·
      have cI := refIn_any ua uc q L x wr HIL.out.2 HIL.out.1
      by_cases hin : x ∈ L
      ·
       have HF := HNEG.out (HC0.out (by rw [HMj.out, hd.out, moreL, if_pos (.inr (.inr hin))]))
       rw [decide_eq_true hin] at cI
       clear hin
       go_wp2_with (go_at_call 98; refine cI.mono ?_; rintro y w3 ⟨rfl, hb3⟩; replace HB := Below.tr HB hb3; replace BR := BR.below hb3; clear x0 x1 x2 x3 x4 r0 r1 r2 f0 f1 f2; obtain ⟨⟨r0, r1, r2⟩, f0, f1, f2⟩ := id BR)
       obtain ⟨z0, z1, z2⟩ := set3_cells (v0 := .int .i64 0) (v1 := .int .i64 0) (v2 := .int .i64 0) r0 r1 r2
       refine bodyPost_ret (v := .tuple #[.agg #[.int .i64 0, .int .i64 0, .int .i64 0], .int .i64 81]) (by simp [results, Tryz.results53, go_sem, z0, z1, z2]) rfl ?_
       rw [HF.out.1, HF.out.2.1, HF.out.2.2.1, HF.out.2.2.2]
       exact ⟨rfl, below_set3 HB (by omega)⟩
      ·
       have HMn : Hid (M = moreL n' (L ++ [x]) (ms.drop (j + 1))) := by
        show _ = _
        rw [HMj.out, hd.out, moreL, if_neg (fun hh => by rcases hh with e | e | e; exact h10 e; exact hxn e; exact hin e)]
       rw [decide_eq_false hin] at cI
       clear hin HMj hd HIL
       go_wp2_with (first
        | (go_at_call 98; refine cI.mono ?_; rintro y w3 ⟨rfl, hb3⟩; have HB3 := Below.tr HB2 hb3; have LO3 := LO.below hb3; have HO3 : w3.ownsRow W.heap.size 3 1 (.slice ua q uc) q (L.map (Value.int .i64)) := (Turns.of_below (P := fun _ => False) hb3).owns HO.out (fun _ _ x => x); obtain ⟨g2, cap2, U, hrun, hown2, hgr, hat, hge, hlt2⟩ := push_Zl w3 W.heap.size (.slice ua q uc) q L x HO3 HB3.size (by omega); have HB4 : Below W.heap.size W U := Below.turns (P := fun k => W.heap.size ≤ k) HB3 (((Turns.refl _ _).alloc _).grown hgr (fun k hk => (HO3.lt k hk).1)) (fun k hk => hk); have LO4 := LO3.push (n := q + 1) (cap := cap2) hgr hat; have hfin : Hid (U.ownsRow W.heap.size 3 1 (.slice (some ⟨g2, 0, none⟩) (q + 1) cap2) (q + 1) ((L ++ [x]).map (Value.int .i64)) ∧ LocR w1.heap.size w2 U (.slice (some ⟨g2, 0, none⟩) (q + 1) cap2) ∧ Below W.heap.size W U) := ⟨hown2, LO4, HB4⟩; clear HO hown2 HB4 hgr hat hge hlt2 HO3 LO4 LO3 HB3)
        | (at_builtin; refine Lib.wpList_append_run _ rfl _ _ _ _ rfl _ _ rfl rfl _ _ hrun ?_))
       go_roundw
       case rel => exact ⟨j + 1, q + 1, L ++ [x], by omega, by go_num, by omega, HMn.out, hfin.out.1, hfin.out.2.1, hfin.out.2.2⟩
       case measure => simp [intOf]; omega
   ·
    obtain rfl : nm = j := by omega
    have hj0 : ¬ (nm : Int) < nm := by omega
    have HCL : Hid (checkOK ns t ms = justL ns L) := HC.out L (by rw [HMj.out, EM.out, List.drop_length]; rfl)
    have HBR2 : Hid (Box3 wr (w.heap.size + 1) (.int .i64 0) (.int .i64 0) (.int .i64 0)) := BR
    obtain ⟨⟨k0, k1, k2, k3⟩, -⟩ := HD.out.box.turns LO.st (by omega)
    obtain ⟨pa, pc, hpa⟩ := owns_sees HD.out.r1
    obtain ⟨qa, qc, hqa⟩ := owns_sees HD.out.r2
    rw [hpa] at k0
    rw [hqa] at k1
    have mt1 : t.pairs.length ≤ 9223372036854775807 := owns_few HD.out.r1
    have mt2 : t.blocks.length ≤ 9223372036854775807 := owns_few HD.out.r2
    clear hpa hqa HC HC0 HMj HO LO HD
    obtain ⟨wq, hwq⟩ : ∃ X, X = wr := ⟨_, rfl⟩
    subst hwq
    go_wp2
    go_loopw [55] (fun v wx => ∃ i : Nat, i ≤ n' ∧ v = .int .i64 i ∧ (∀ k, k < i → atB ns k = (decide (k < 10) || L.contains (k : Int))) ∧ Below wq.heap.size wq wx) (fun v _ => n' - (intOf v).toNat)
    case atStart => exact ⟨0, by omega, rfl, fun k hk => by omega, Below.refl _ _⟩
    case round =>
     obtain ⟨i, hi, rfl, hA, HB3⟩ := hrel
     have HA : Hid (∀ k, k < i → atB ns k = (decide (k < 10) || L.contains (k : Int))) := hA
     clear hA
     replace HB := Below.tr HB HB3
     have BR := HBR2.out.below HB3
     clear r0 r1 r2 f0 f1 f2
     obtain ⟨⟨r0, r1, r2⟩, f0, f1, f2⟩ := id BR
     by_cases hlt : i < n'
     ·
      have hlt' : (i : Int) < n' := by omega
      obtain ⟨x, hx⟩ : ∃ x, Hid (ns[i]? = some x) := get_some (by rw [← EN.out]; exact hlt)
      obtain ⟨b1, o1, rfl, -, hc⟩ := RN.out.2.2 i x hx.out
      have z := cell_below HB hc
      have hbad2 : Hid (x ≠ (decide (i < 10) || L.contains (i : Int)) → justL ns L = false) := fun hne => by
       cases hj : justL ns L with
       | false => rfl
       | true =>
        have := (just_iff.1 hj).2 i (by rw [← EN.out]; exact hlt)
        rw [atB_some hx.out] at this
        exact absurd this hne
      have hgood : Hid (x = (decide (i < 10) || L.contains (i : Int)) → ∀ k, k < i + 1 → atB ns k = (decide (k < 10) || L.contains (k : Int))) := fun he k hk => by
       by_cases e : k = i
       ·
        subst e; rw [atB_some hx.out]; exact he
       ·
        exact HA.out k (by omega)
      clear hc hx HA
      by_cases h10 : i < 10
      ·
       have h10' : (i : Int) < 10 := by omega
       cases x with
       | false =>
        have HF := HNEG.out (by rw [HCL.out]; exact hbad2.out (by rw [decide_eq_true h10, Bool.true_or]; decide))
        go_wp2
        obtain ⟨z0, z1, z2⟩ := set3_cells (v0 := .int .i64 0) (v1 := .int .i64 0) (v2 := .int .i64 0) r0 r1 r2
        refine bodyPost_ret (v := .tuple #[.agg #[.int .i64 0, .int .i64 0, .int .i64 0], .int .i64 81]) (by simp [results, Tryz.results53, go_sem, z0, z1, z2]) rfl ?_
        rw [HF.out.1, HF.out.2.1, HF.out.2.2.1, HF.out.2.2.2]
        exact ⟨rfl, below_set3 HB (by omega)⟩
       | true =>
        have HG : Hid (∀ k, k < i + 1 → atB ns k = (decide (k < 10) || L.contains (k : Int))) := hgood.out (by rw [decide_eq_true h10]; rfl)
        clear hgood hbad2
        go_wp2
        go_roundw
        case rel => exact ⟨i + 1, by omega, by go_num, HG.out, HB3⟩
        case measure => simp [intOf]; omega
      ·
       have h10' : ¬ (i : Int) < 10 := by omega
       have cI := refIn_any ua uc q L i wr HIL.out.2 (HIL.out.1.below HB3)
       have hdc : decide ((i : Int) ∈ L) = L.contains (i : Int) := by rw [Bool.eq_iff_iff]; simp
       rw [hdc] at cI
       rw [decide_eq_false h10, Bool.false_or] at hbad2 hgood
       obtain ⟨y, hy⟩ : ∃ y, y = L.contains (i : Int) := ⟨_, rfl⟩
       rw [← hy] at cI hbad2
       clear hdc
       by_cases he : x = y
       ·
        have he' : (x == y) = true := by simpa using he
        have HG : Hid (∀ k, k < i + 1 → atB ns k = (decide (k < 10) || L.contains (k : Int))) := hgood.out (he.trans hy)
        clear hgood hbad2 hy he
        go_wp2_with (go_at_call 98; refine cI.mono ?_; rintro y' w3 ⟨rfl, hb3⟩; replace HB3 := Below.tr HB3 hb3)
        go_roundw
        case rel => exact ⟨i + 1, by omega, by go_num, HG.out, HB3⟩
        case measure => simp [intOf]; omega
       ·
        have he' : (x == y) = false := by simpa using he
        have HF := HNEG.out (by rw [HCL.out]; exact hbad2.out he)
        clear hgood hbad2 hy he
        go_wp2_with (go_at_call 98; refine cI.mono ?_; rintro y' w3 ⟨rfl, hb3⟩; replace HB := Below.tr HB hb3; replace BR := BR.below hb3; clear r0 r1 r2 f0 f1 f2; obtain ⟨⟨r0, r1, r2⟩, f0, f1, f2⟩ := id BR)
        obtain ⟨z0, z1, z2⟩ := set3_cells (v0 := .int .i64 0) (v1 := .int .i64 0) (v2 := .int .i64 0) r0 r1 r2
        refine bodyPost_ret (v := .tuple #[.agg #[.int .i64 0, .int .i64 0, .int .i64 0], .int .i64 81]) (by simp [results, Tryz.results53, go_sem, z0, z1, z2]) rfl ?_
        rw [HF.out.1, HF.out.2.1, HF.out.2.2.1, HF.out.2.2.2]
        exact ⟨rfl, below_set3 HB (by omega)⟩
     ·
      obtain rfl : n' = i := by omega
      have hj3 : ¬ (n' : Int) < n' := by omega
      have HF := HPOS.out (by rw [HCL.out]; exact just_iff.2 ⟨rfl, by rw [← EN.out]; exact HA.out⟩)
      have k0' := cell_below HB3 k0
      have k1' := cell_below HB3 k1
      have k2' := cell_below HB3 k2
      clear k0 k1 k2 k3 HA HPOS HNEG
      go_wp2
      go_region
      go_wp2
      obtain ⟨z0, z1, z2⟩ := set3_cells (v0 := .int .i64 t.pairs.length) (v1 := .int .i64 t.height) (v2 := .int .i64 t.blocks.length) r0 r1 r2
      refine bodyPost_ret (v := .tuple #[.agg #[.int .i64 t.pairs.length, .int .i64 t.height, .int .i64 t.blocks.length], .int .i64 0]) (by simp [results, Tryz.results53, go_sem, z0, z1, z2]) rfl ?_
      rw [HF.out.1, HF.out.2.1, HF.out.2.2.1, HF.out.2.2.2]
      exact ⟨rfl, (below_set3 HB (by omega)).drew⟩
 ·
  have HF : Hid (rP = 0 ∧ rH = 0 ∧ rB = 0 ∧ rE = eB) := by
   refine hbad eB he0 ?_
   rw [hEB] at he0 ⊢
   unfold blocksE checkE at *
   cases r with
   | false => rfl
   | true => cases hb : t.bad with
    | false => rw [hb] at he0; simp at he0
    | true => simp
  have he0' : (eB != 0) = true := by simpa using he0
  clear hn hn' hp hB hB' hP hm hI hr ht hE hP' hH hBB hbad hEB hLB he0 cT
  go_enter Tryz.func53, Tryz.ntmps53
  go_wp2_with (
   (go_at_call 96; rw [← hW]; refine cL.mono ?_; rintro y w1 ⟨u, q, rfl, hown, hb⟩; replace HB := Below.tr HB hb; have HW1 := hb; replace BR := BR.below hb; replace BW := BW.below hb; clear x0 x1 x2 x3 x4 r0 r1 r2 f0 f1 f2; obtain ⟨x0, x1, x2, x3, x4⟩ := id BW; obtain ⟨⟨r0, r1, r2⟩, f0, f1, f2⟩ := id BR; clear hb))
  obtain ⟨z0, z1, z2⟩ := set3_cells (v0 := .int .i64 0) (v1 := .int .i64 0) (v2 := .int .i64 0) r0 r1 r2
  refine bodyPost_ret (v := .tuple #[.agg #[.int .i64 0, .int .i64 0, .int .i64 0], .int .i64 eB]) (by simp [results, Tryz.results53, go_sem, z0, z1, z2]) rfl ?_
  rw [HF.out.1, HF.out.2.1, HF.out.2.2.1, HF.out.2.2.2]
  exact ⟨rfl, below_set3 HB (by omega)⟩
end Go.Proofs.YtaobfgplheoefaaGreat
namespace Go.Proofs.YtaobfgplheoefaaGreat
open Go.RowKit Plain Anylast
set_option linter.unusedVariables false
theorem us_read {s : ByteArray} {g z : Int} (h : readE s = 0) (h1 : readK s = 3) (h2 : readG s ≤ g) : usE s g z = unE (readB s) z ∧ usL s g z = unL (readB s) z := by
 have hE : wantE s [3] = 0 := by unfold wantE; rw [if_pos h, h1, if_pos (by simp)]
 have hG : wantG s [3] = readG s := by unfold wantG; rw [if_pos hE]
 have hB : wantB s [3] = readB s := by unfold wantB; rw [if_pos hE]
 have := us_un (s := s) (g := g) (z := z) hE (by rw [hG]; exact h2)
 rw [hB] at this
 exact this
theorem us_readNo {s : ByteArray} {g z : Int} (h : ¬ (readE s = 0 ∧ readK s = 3 ∧ readG s ≤ g)) : ¬ usE s g z = 0 := by
 intro hu
 apply h
 unfold usE at hu
 split at hu
 ·
  rename_i hE
  split at hu
  ·
   rename_i hG
   have h0 : readE s = 0 := by
    unfold wantE at hE
    split at hE
    ·
     assumption
    ·
     contradiction
   have h1 : readK s = 3 := by
    unfold wantE at hE
    rw [if_pos h0] at hE
    split at hE
    ·
     rename_i hk; simpa using hk
    ·
     cases hE
   exact ⟨h0, h1, by unfold wantG at hG; rw [if_pos hE] at hG; exact hG⟩
  ·
   cases hu
 ·
  contradiction
def pageV (h hd b o j B g n cap : Nat) (u ds : Value) (x : ByteArray) : Nat → Value
 | 0 => .pointer (some ⟨h, 2, none⟩)
 | 1 => u
 | 2 => .pointer (some ⟨hd, 0, none⟩)
 | 3 => ds
 | 4 => .int .i64 j
 | 5 => .pointer (some ⟨b, o + j, none⟩)
 | 6 => .string x
 | 7 => .slice (some ⟨B, 0, none⟩) 1 1
 | 8 => .slice (some ⟨g, 0, none⟩) n cap
 | _ => .pointer (some ⟨h, 2, none⟩)
theorem zeros5 : ∀ (i : Nat) (u : Value), ([Value.slice none 0 0, .slice none 0 0, .slice none 0 0, .int .i64 0, .int .i64 0] : List Value)[i]? = some u → (∀ x, u ≠ Value.bool x) ∧ ∀ x, u ≠ Value.string x := by
 intro i u hu
 have := List.mem_of_getElem? hu
 simp at this
 rcases this with rfl | rfl <;> exact ⟨fun x h => (by cases h), fun x h => (by cases h)⟩
def worldsP (w0 w1 w2 w3 : World) : Nat → World
 | 0 => w0
 | 1 => w1
 | 2 => w2
 | _ => w3
def wdB (X : ByteArray) (bs : List ByteArray) (g r z m : Int) : Bool := decide (usE X g z = 0 ∧ paE (usL X g z) (usL X g z) (pgL bs (usL X g z)) r (g + 1) m = 0)
set_option maxRecDepth 20000 in
set_option maxHeartbeats 8000000 in
theorem refWood_any (a a' : Option Addr) (n n' c c' : Nat) (bs : List ByteArray) (g r z : Int) (m k : Nat) (w : World) (hn : n = bs.length) (hm : m < n) (hk : z = k) (hkn : k ≤ n) (hk2 : k ≤ 2048) (hg0 : 0 ≤ g) (hg1 : g ≤ 1099511627776) (hS : IsS w a c bs) :
  Calls Tryz.prog 39 #[.agg #[.slice a n c, .slice a' n' c'], .agg #[.int .i64 g, .int .i64 r, .int .i64 m, .int .i64 z]] w fun e w' => ∃ v0 v1 v2 v3 v4, e = .returned (.tuple #[.agg #[v0, v1, v2, v3, v4], .bool (wdB (blk bs m) bs g r z m)]) ∧ (wdB (blk bs m) bs g r z m = true → ∃ ua uc a3 c3, v0 = .slice ua k uc ∧ v1 = .slice ua k uc ∧ v2 = .slice a3 k c3 ∧ v3 = .int .i64 r ∧ v4 = .int .i64 (g + 1) ∧ IsB w' ua uc (usL (blk bs m) g z) ∧ IsS w' a3 c3 (pgL bs (usL (blk bs m) g z))) ∧ (∃ x0 n0 d0 x1 n1 d1 x2 n2 d2 r4 g4, v0 = .slice x0 n0 d0 ∧ v1 = .slice x1 n1 d1 ∧ v2 = .slice x2 n2 d2 ∧ v3 = .int .i64 r4 ∧ v4 = .int .i64 g4) ∧ Below w.heap.size w w' := by
 obtain ⟨W0, hW0⟩ : ∃ W0, W0 = ((w.alloc (.cells #[.slice a n c, .slice a' n' c'] 25)).alloc (.cells #[.int .i64 g, .int .i64 r, .int .i64 m, .int .i64 z] 35)).alloc (.cells #[.slice none 0 0, .slice none 0 0, .slice none 0 0, .int .i64 0, .int .i64 0] 40) := ⟨_, rfl⟩
 have HB : Below w.heap.size w W0 := by rw [hW0]; exact (((Below.refl _ _).alloc (Nat.le_refl _) _).alloc (by simp) _).alloc (by simp; omega) _
 have bD : BoxL W0 w.heap.size [.slice a n c, .slice a' n' c'] := by rw [hW0]; exact ((boxL_new w _ _ rfl).alloc _).alloc _
 have bS : BoxL W0 (w.heap.size + 1) [.int .i64 g, .int .i64 r, .int .i64 m, .int .i64 z] := by rw [hW0]; exact (boxL_new _ _ _ (by simp)).alloc _
 have bO : BoxL W0 (w.heap.size + 1 + 1) [.slice none 0 0, .slice none 0 0, .slice none 0 0, .int .i64 0, .int .i64 0] := by rw [hW0]; exact boxL_new _ _ _ (by simp)
 have hWs : W0.heap.size = w.heap.size + 3 := by rw [hW0]; simp
 obtain ⟨x, hx⟩ : ∃ x, bs[m]? = some x := ⟨_, List.getElem?_eq_getElem (by rw [← hn]; exact hm)⟩
 obtain ⟨b, o, rfl, hbl, hcx, hxs⟩ := hS.2.2 m x hx
 have hcx0 := cell_below HB hcx
 rw [hW0] at hcx0
 have hmi : (m : Int) < n := by omega
 have HX : Hid (blk bs m = x) := by show blk bs m = x; unfold blk; rw [hx]; rfl
 rw [show blk bs m = x from HX.out]
 have HS : Hid (IsS w (some ⟨b, o, none⟩) c bs) := hS
 have HN : Hid (n = bs.length) := hn
 have cG := refPageGet_any x W0 hxs
 have u1 : Hid (¬ (readE x = 0 ∧ readK x = 3 ∧ readG x ≤ g) → wdB x bs g r z m = false) := fun h => decide_eq_false (fun hh => us_readNo h hh.1)
 have u2 : Hid (readE x = 0 → readK x = 3 → readG x ≤ g → ¬ unE (readB x) z = 0 → wdB x bs g r z m = false) := fun h1 h2 h3 h4 => decide_eq_false (fun hh => h4 (by rw [← (us_read h1 h2 h3).1]; exact hh.1))
 have u3 : Hid (readE x = 0 → readK x = 3 → readG x ≤ g → unE (readB x) z = 0 → wdB x bs g r z m = decide (paE (unL (readB x) z) (unL (readB x) z) (pgL bs (unL (readB x) z)) r (g + 1) m = 0) ∧ usL x g z = unL (readB x) z) := by
  intro h1 h2 h3 h4
  obtain ⟨e1, e2⟩ := us_read (z := z) h1 h2 h3
  refine ⟨?_, e2⟩
  unfold wdB
  rw [e1, e2, h4]
  simp
 have hul : Hid (unE (readB x) k = 0 → (unL (readB x) k).length = k) := fun h => by rw [unL_ok h, unpackL_length]
 have cU : ∀ W : World, Calls Tryz.prog 81 #[.string (readB x), .int .i64 z] W fun e w' => ∃ a c, e = .returned (.tuple #[.slice a (unL (readB x) z).length c, .int .i64 (unE (readB x) z)]) ∧ IsB w' a c (unL (readB x) z) ∧ Below W.heap.size W w' :=
  fun W => refUnpack_any (readB x) z W (Nat.le_trans (readB_few x) (by omega))
 subst hk
 obtain ⟨PE, hPE⟩ : ∃ E, E = readE x := ⟨_, rfl⟩
 obtain ⟨PK, hPK⟩ : ∃ E, E = readK x := ⟨_, rfl⟩
 obtain ⟨PG, hPG⟩ : ∃ E, E = readG x := ⟨_, rfl⟩
 obtain ⟨PB, hPB⟩ : ∃ E, E = readB x := ⟨_, rfl⟩
 rw [← hPE, ← hPK, ← hPG, ← hPB] at cG
 rw [← hPE, ← hPK, ← hPG] at u1
 rw [← hPE, ← hPK, ← hPG, ← hPB] at u2 u3
 rw [← hPB] at hul cU
 clear hPE hPK hPG hPB HX hS hn hbl hcx hx
 obtain ⟨U, hU⟩ : ∃ u, u = unL PB k := ⟨_, rfl⟩
 obtain ⟨F, hF⟩ : ∃ u, u = unE PB k := ⟨_, rfl⟩
 rw [← hU, ← hF] at cU u3 hul
 rw [← hF] at u2
 clear hU hF
 obtain ⟨OK, hOK⟩ : ∃ u, u = wdB x bs g r k m := ⟨_, rfl⟩
 obtain ⟨US, hUS⟩ : ∃ u, u = usL x g k := ⟨_, rfl⟩
 rw [← hOK] at u1 u2 u3 ⊢
 rw [← hUS] at u3 ⊢
 clear hOK hUS
 have d0 := bD.1 0 _ rfl
 have s2 := bS.1 2 _ rfl
 by_cases e1 : PE = 0
 case neg =>
  have HE : Hid (OK = false) := u1.out (fun h => e1 h.1)
  clear u1 u2 u3 hul
  go_enter Tryz.func39, Tryz.ntmps39
  go_wp2_with (first
   | (go_at_call 80; rw [← hW0]; refine cG.mono ?_; rintro e w1 ⟨rfl, hb⟩; have hC := (Below.refl w1.heap.size w1).alloc (Nat.le_refl _) (.cells #[.int .i64 PK, .int .i64 PG, .string PB] 115); replace HB := Below.tr (Below.tr HB hb) hC; replace bD := (bD.below hb).below hC; replace bS := (bS.below hb).below hC; replace bO := (bO.below hb).below hC; have bP := boxL_new w1 [.int .i64 PK, .int .i64 PG, .string PB] 115 rfl; clear hb hC d0 s2; have p0 := bP.1 0 _ rfl; have p1 := bP.1 1 _ rfl; have p2 := bP.1 2 _ rfl; have s0 := bS.1 0 _ rfl; have s1 := bS.1 1 _ rfl; have s3 := bS.1 3 _ rfl; have q0 := bO.1 0 _ rfl; have q1 := bO.1 1 _ rfl; have q2 := bO.1 2 _ rfl; have q3 := bO.1 3 _ rfl; have q4 := bO.1 4 _ rfl; have f0 := bO.2 0 (by simp); have f1 := bO.2 1 (by simp); have f2 := bO.2 2 (by simp); have f3 := bO.2 3 (by simp); have f4 := bO.2 4 (by simp))
   | (go_at_call 81; refine (cU _).mono ?_; rintro e w2 ⟨ua, uc, rfl, hI, hb⟩; replace HB := Below.tr HB hb; replace bD := bD.below hb; replace bS := bS.below hb; replace bO := bO.below hb; have HI : Hid (IsB w2 ua uc _) := hI; clear hb hI p0 p1 p2 s0 s1 s3 q0 q1 q2 q3 q4 f0 f1 f2 f3 f4; have s0 := bS.1 0 _ rfl; have s1 := bS.1 1 _ rfl; have q0 := bO.1 0 _ rfl; have q1 := bO.1 1 _ rfl; have q2 := bO.1 2 _ rfl; have q3 := bO.1 3 _ rfl; have q4 := bO.1 4 _ rfl; have f0 := bO.2 0 (by simp); have f1 := bO.2 1 (by simp); have f2 := bO.2 2 (by simp); have f3 := bO.2 3 (by simp); have f4 := bO.2 4 (by simp)))
  refine bodyPost_ret (v := .tuple #[.agg #[.slice none 0 0, .slice none 0 0, .slice none 0 0, .int .i64 0, .int .i64 0], .bool false]) (by simp [results, Tryz.results39, go_sem, q0, q1, q2, q3, q4]) rfl ?_
  rw [HE.out]
  exact ⟨_, _, _, _, _, rfl, fun h => (by cases h), ⟨_, _, _, _, _, _, _, _, _, _, _, rfl, rfl, rfl, rfl, rfl⟩, Below.setL (h := w.heap.size + 1 + 1) (by omega) [.slice none 0 0, .slice none 0 0, .slice none 0 0, .int .i64 0, .int .i64 0] 0 _ HB⟩
 case pos =>
 subst e1
 by_cases e2 : PK = 3
 case neg =>
  have HE : Hid (OK = false) := u1.out (fun h => e2 h.2.1)
  clear u1 u2 u3 hul
  go_enter Tryz.func39, Tryz.ntmps39
  go_wp2_with (first
   | (go_at_call 80; rw [← hW0]; refine cG.mono ?_; rintro e w1 ⟨rfl, hb⟩; have hC := (Below.refl w1.heap.size w1).alloc (Nat.le_refl _) (.cells #[.int .i64 PK, .int .i64 PG, .string PB] 115); replace HB := Below.tr (Below.tr HB hb) hC; replace bD := (bD.below hb).below hC; replace bS := (bS.below hb).below hC; replace bO := (bO.below hb).below hC; have bP := boxL_new w1 [.int .i64 PK, .int .i64 PG, .string PB] 115 rfl; clear hb hC d0 s2; have p0 := bP.1 0 _ rfl; have p1 := bP.1 1 _ rfl; have p2 := bP.1 2 _ rfl; have s0 := bS.1 0 _ rfl; have s1 := bS.1 1 _ rfl; have s3 := bS.1 3 _ rfl; have q0 := bO.1 0 _ rfl; have q1 := bO.1 1 _ rfl; have q2 := bO.1 2 _ rfl; have q3 := bO.1 3 _ rfl; have q4 := bO.1 4 _ rfl; have f0 := bO.2 0 (by simp); have f1 := bO.2 1 (by simp); have f2 := bO.2 2 (by simp); have f3 := bO.2 3 (by simp); have f4 := bO.2 4 (by simp))
   | (go_at_call 81; refine (cU _).mono ?_; rintro e w2 ⟨ua, uc, rfl, hI, hb⟩; replace HB := Below.tr HB hb; replace bD := bD.below hb; replace bS := bS.below hb; replace bO := bO.below hb; have HI : Hid (IsB w2 ua uc _) := hI; clear hb hI p0 p1 p2 s0 s1 s3 q0 q1 q2 q3 q4 f0 f1 f2 f3 f4; have s0 := bS.1 0 _ rfl; have s1 := bS.1 1 _ rfl; have q0 := bO.1 0 _ rfl; have q1 := bO.1 1 _ rfl; have q2 := bO.1 2 _ rfl; have q3 := bO.1 3 _ rfl; have q4 := bO.1 4 _ rfl; have f0 := bO.2 0 (by simp); have f1 := bO.2 1 (by simp); have f2 := bO.2 2 (by simp); have f3 := bO.2 3 (by simp); have f4 := bO.2 4 (by simp)))
  refine bodyPost_ret (v := .tuple #[.agg #[.slice none 0 0, .slice none 0 0, .slice none 0 0, .int .i64 0, .int .i64 0], .bool false]) (by simp [results, Tryz.results39, go_sem, q0, q1, q2, q3, q4]) rfl ?_
  rw [HE.out]
  exact ⟨_, _, _, _, _, rfl, fun h => (by cases h), ⟨_, _, _, _, _, _, _, _, _, _, _, rfl, rfl, rfl, rfl, rfl⟩, Below.setL (h := w.heap.size + 1 + 1) (by omega) [.slice none 0 0, .slice none 0 0, .slice none 0 0, .int .i64 0, .int .i64 0] 0 _ HB⟩
 case pos =>
 subst e2
 by_cases e3 : PG ≤ g
 case neg =>
  have HE : Hid (OK = false) := u1.out (fun h => e3 h.2.2)
  have e3' : g < PG := by omega
  clear u1 u2 u3 hul
  go_enter Tryz.func39, Tryz.ntmps39
  go_wp2_with (first
   | (go_at_call 80; rw [← hW0]; refine cG.mono ?_; rintro e w1 ⟨rfl, hb⟩; have hC := (Below.refl w1.heap.size w1).alloc (Nat.le_refl _) (.cells #[.int .i64 3, .int .i64 PG, .string PB] 115); replace HB := Below.tr (Below.tr HB hb) hC; replace bD := (bD.below hb).below hC; replace bS := (bS.below hb).below hC; replace bO := (bO.below hb).below hC; have bP := boxL_new w1 [.int .i64 3, .int .i64 PG, .string PB] 115 rfl; clear hb hC d0 s2; have p0 := bP.1 0 _ rfl; have p1 := bP.1 1 _ rfl; have p2 := bP.1 2 _ rfl; have s0 := bS.1 0 _ rfl; have s1 := bS.1 1 _ rfl; have s3 := bS.1 3 _ rfl; have q0 := bO.1 0 _ rfl; have q1 := bO.1 1 _ rfl; have q2 := bO.1 2 _ rfl; have q3 := bO.1 3 _ rfl; have q4 := bO.1 4 _ rfl; have f0 := bO.2 0 (by simp); have f1 := bO.2 1 (by simp); have f2 := bO.2 2 (by simp); have f3 := bO.2 3 (by simp); have f4 := bO.2 4 (by simp))
   | (go_at_call 81; refine (cU _).mono ?_; rintro e w2 ⟨ua, uc, rfl, hI, hb⟩; replace HB := Below.tr HB hb; replace bD := bD.below hb; replace bS := bS.below hb; replace bO := bO.below hb; have HI : Hid (IsB w2 ua uc _) := hI; clear hb hI p0 p1 p2 s0 s1 s3 q0 q1 q2 q3 q4 f0 f1 f2 f3 f4; have s0 := bS.1 0 _ rfl; have s1 := bS.1 1 _ rfl; have q0 := bO.1 0 _ rfl; have q1 := bO.1 1 _ rfl; have q2 := bO.1 2 _ rfl; have q3 := bO.1 3 _ rfl; have q4 := bO.1 4 _ rfl; have f0 := bO.2 0 (by simp); have f1 := bO.2 1 (by simp); have f2 := bO.2 2 (by simp); have f3 := bO.2 3 (by simp); have f4 := bO.2 4 (by simp)))
  refine bodyPost_ret (v := .tuple #[.agg #[.slice none 0 0, .slice none 0 0, .slice none 0 0, .int .i64 0, .int .i64 0], .bool false]) (by simp [results, Tryz.results39, go_sem, q0, q1, q2, q3, q4]) rfl ?_
  rw [HE.out]
  exact ⟨_, _, _, _, _, rfl, fun h => (by cases h), ⟨_, _, _, _, _, _, _, _, _, _, _, rfl, rfl, rfl, rfl, rfl⟩, Below.setL (h := w.heap.size + 1 + 1) (by omega) [.slice none 0 0, .slice none 0 0, .slice none 0 0, .int .i64 0, .int .i64 0] 0 _ HB⟩
 case pos =>
 have e3' : ¬ g < PG := by omega
 by_cases e4 : F = 0
 case neg =>
  have HE : Hid (OK = false) := u2.out rfl rfl e3 e4
  clear u1 u2 u3 hul
  go_enter Tryz.func39, Tryz.ntmps39
  go_wp2_with (first
   | (go_at_call 80; rw [← hW0]; refine cG.mono ?_; rintro e w1 ⟨rfl, hb⟩; have hC := (Below.refl w1.heap.size w1).alloc (Nat.le_refl _) (.cells #[.int .i64 3, .int .i64 PG, .string PB] 115); replace HB := Below.tr (Below.tr HB hb) hC; replace bD := (bD.below hb).below hC; replace bS := (bS.below hb).below hC; replace bO := (bO.below hb).below hC; have bP := boxL_new w1 [.int .i64 3, .int .i64 PG, .string PB] 115 rfl; clear hb hC d0 s2; have p0 := bP.1 0 _ rfl; have p1 := bP.1 1 _ rfl; have p2 := bP.1 2 _ rfl; have s0 := bS.1 0 _ rfl; have s1 := bS.1 1 _ rfl; have s3 := bS.1 3 _ rfl; have q0 := bO.1 0 _ rfl; have q1 := bO.1 1 _ rfl; have q2 := bO.1 2 _ rfl; have q3 := bO.1 3 _ rfl; have q4 := bO.1 4 _ rfl; have f0 := bO.2 0 (by simp); have f1 := bO.2 1 (by simp); have f2 := bO.2 2 (by simp); have f3 := bO.2 3 (by simp); have f4 := bO.2 4 (by simp))
   | (go_at_call 81; refine (cU _).mono ?_; rintro e w2 ⟨ua, uc, rfl, hI, hb⟩; replace HB := Below.tr HB hb; replace bD := bD.below hb; replace bS := bS.below hb; replace bO := bO.below hb; have HI : Hid (IsB w2 ua uc _) := hI; clear hb hI p0 p1 p2 s0 s1 s3 q0 q1 q2 q3 q4 f0 f1 f2 f3 f4; have s0 := bS.1 0 _ rfl; have s1 := bS.1 1 _ rfl; have q0 := bO.1 0 _ rfl; have q1 := bO.1 1 _ rfl; have q2 := bO.1 2 _ rfl; have q3 := bO.1 3 _ rfl; have q4 := bO.1 4 _ rfl; have f0 := bO.2 0 (by simp); have f1 := bO.2 1 (by simp); have f2 := bO.2 2 (by simp); have f3 := bO.2 3 (by simp); have f4 := bO.2 4 (by simp)))
  refine bodyPost_ret (v := .tuple #[.agg #[.slice none 0 0, .slice none 0 0, .slice none 0 0, .int .i64 0, .int .i64 0], .bool false]) (by simp [results, Tryz.results39, go_sem, q0, q1, q2, q3, q4]) rfl ?_
  rw [HE.out]
  exact ⟨_, _, _, _, _, rfl, fun h => (by cases h), ⟨_, _, _, _, _, _, _, _, _, _, _, rfl, rfl, rfl, rfl, rfl⟩, Below.setL (h := w.heap.size + 1 + 1) (by omega) [.slice none 0 0, .slice none 0 0, .slice none 0 0, .int .i64 0, .int .i64 0] 0 _ HB⟩
 case pos =>
 subst e4
 obtain ⟨e5, rfl⟩ := u3.out rfl rfl e3 rfl
 have HOK : Hid (OK = decide (paE US US (pgL bs US) r (g + 1) m = 0)) := e5
 have HU : Hid (k = US.length) := (hul.out rfl).symm
 rw [show US.length = k from HU.out.symm] at cU
 have hgw : IntKind.i64.wrap (g + 1) = g + 1 := i64_in _ (by omega) (by omega)
 clear u1 u2 u3 hul e5
 go_enter Tryz.func39, Tryz.ntmps39
 go_wp2_with (first
  | (go_at_call 80; rw [← hW0]; refine cG.mono ?_; rintro e w1 ⟨rfl, hb⟩; have hC := (Below.refl w1.heap.size w1).alloc (Nat.le_refl _) (.cells #[.int .i64 3, .int .i64 PG, .string PB] 115); replace HB := Below.tr (Below.tr HB hb) hC; replace bD := (bD.below hb).below hC; replace bS := (bS.below hb).below hC; replace bO := (bO.below hb).below hC; have bP := boxL_new w1 [.int .i64 3, .int .i64 PG, .string PB] 115 rfl; clear hb hC d0 s2; have p0 := bP.1 0 _ rfl; have p1 := bP.1 1 _ rfl; have p2 := bP.1 2 _ rfl; have s0 := bS.1 0 _ rfl; have s1 := bS.1 1 _ rfl; have s3 := bS.1 3 _ rfl; have q0 := bO.1 0 _ rfl; have q1 := bO.1 1 _ rfl; have q2 := bO.1 2 _ rfl; have q3 := bO.1 3 _ rfl; have q4 := bO.1 4 _ rfl; have f0 := bO.2 0 (by simp); have f1 := bO.2 1 (by simp); have f2 := bO.2 2 (by simp); have f3 := bO.2 3 (by simp); have f4 := bO.2 4 (by simp))
  | (go_at_call 81; refine (cU _).mono ?_; rintro e w2 ⟨ua, uc, rfl, hI, hb⟩; replace HB := Below.tr HB hb; replace bD := bD.below hb; replace bS := bS.below hb; replace bO := bO.below hb; have HI : Hid (IsB w2 ua uc _) := hI; clear hb hI p0 p1 p2 s0 s1 s3 q0 q1 q2 q3 q4 f0 f1 f2 f3 f4; have s0 := bS.1 0 _ rfl; have s1 := bS.1 1 _ rfl; have q0 := bO.1 0 _ rfl; have q1 := bO.1 1 _ rfl; have q2 := bO.1 2 _ rfl; have q3 := bO.1 3 _ rfl; have q4 := bO.1 4 _ rfl; have f0 := bO.2 0 (by simp); have f1 := bO.2 1 (by simp); have f2 := bO.2 2 (by simp); have f3 := bO.2 3 (by simp); have f4 := bO.2 4 (by simp)))
 obtain ⟨h, hh⟩ : ∃ h, h = w2.heap.size := ⟨_, rfl⟩
 have hhw : w.heap.size + 3 ≤ h := by rw [hh]; have := bO.lt (by simp); omega
 have bW := boxL_new w2 [.slice ua k uc, .slice ua k uc, .slice none 0 0, .int .i64 r, .int .i64 (g + 1)] 40 hh
 have hC : Below w2.heap.size w2 (w2.alloc (.cells #[.slice ua k uc, .slice ua k uc, .slice none 0 0, .int .i64 r, .int .i64 (g + 1)] 40)) := (Below.refl w2.heap.size w2).alloc (Nat.le_refl _) _
 have hVs : (w2.alloc (.cells #[.slice ua k uc, .slice ua k uc, .slice none 0 0, .int .i64 r, .int .i64 (g + 1)] 40)).heap.size = h + 1 := by simp [hh]
 clear s0 s1 q0 q1 q2 q3 q4 f0 f1 f2 f3 f4 hcx0 cG cU
 have Hh : Hid (h = w2.heap.size) := hh
 rw [← hh]
 go_loopw [65] (fun v wr => ∃ (j : Nat) (v2 : Value), j ≤ k ∧ v = .int .i64 j ∧ BoxL wr h [.slice ua k uc, .slice ua k uc, v2, .int .i64 r, .int .i64 (g + 1)] ∧ wr.ownsRow (h + 1) 9 1 v2 j (((pgL bs US).take j).map Value.string) ∧ Below w2.heap.size w2 wr ∧ h + 1 ≤ wr.heap.size) (fun v _ => k - (intOf v).toNat)
 case atStart => exact ⟨0, .slice none 0 0, by omega, rfl, bW, ⟨rfl, .inl ⟨rfl, rfl⟩⟩, hC, by omega⟩
 case round =>
  clear bW hC hVs hh
  obtain ⟨j, v2, hj, rfl, bW, hown, hbel, hsz⟩ := hrel
  have hwb := Below.tr HB hbel
  by_cases hlt : j < k
  ·
   have hlt' : (j : Int) < k := by omega
   have hjn : (j : Int) < n := by omega
   obtain ⟨u, hu⟩ : ∃ u, US[j]? = some u := ⟨_, List.getElem?_eq_getElem (by rw [← HU.out]; exact hlt)⟩
   obtain ⟨bu, ou, rfl, _, du0⟩ := HI.out.2.2 j u hu
   have du := cell_below hbel du0
   obtain ⟨y, hy⟩ : ∃ y, bs[j]? = some y := ⟨_, List.getElem?_eq_getElem (by rw [← HN.out]; omega)⟩
   obtain ⟨bb, ob, e9, _, dy0, hys⟩ := HS.out.2.2 j y hy
   cases e9
   have hnx : Hid ((pgL bs US).take (j + 1) = (pgL bs US).take j ++ [if u = true then y else ByteArray.empty]) := by
    show _ = _
    rw [List.take_add_one, pgL_get bs hu]
    have : blk bs j = y := by unfold blk; rw [hy]; rfl
    rw [this]
    rfl
   have hrow : ∀ k, v2.ownBlock = some k → h < k := fun k hk => by have := (hown.lt k hk).1; omega
   have hrow2 : ∀ k, v2.ownBlock = some k → w2.heap.size ≤ k := fun k hk => by have := (hown.lt k hk).1; have := Hh.out; omega
   clear hu hy du0
   cases u with
   | true =>
    rw [if_pos rfl] at hnx
    go_wp2
    obtain ⟨V0, hV0⟩ : ∃ X, X = wr.drew := ⟨_, rfl⟩
    have hB0 : Below wr.heap.size wr V0 := by rw [hV0]; exact (Below.refl _ _).drew
    have HV0 : Hid (V0 = wr.drew) := hV0
    have hbel0 := Below.tr hbel hB0
    have bW0 := bW.below hB0
    have hown0 : V0.ownsRow (h + 1) 9 1 v2 j (((pgL bs US).take j).map Value.string) := (Turns.of_below (P := fun _ => False) hB0).owns hown (fun _ _ h => h)
    have hsz0 : h + 1 ≤ V0.heap.size := Nat.le_trans hsz hB0.size
    have dy := cell_below (Below.tr HB hbel0) dy0
    have bD0 := bD.below hbel0
    obtain ⟨g1, cap1, w3, hrun8, own1, gr1, at1, ge1, _⟩ := push_S V0 (h + 1) v2 j ((pgL bs US).take j) y hown0 hsz0 (by omega)
    have bA := bW0.alloc (.cells #[.string y] 9)
    have bW3 := bA.grown gr1 hrow
    have hb3 : Below w2.heap.size w2 w3 := (hbel0.alloc hbel0.size _).grown gr1 (by simp; exact Nat.le_succ_of_le hbel0.size) hrow2
    have hsz3 : h + 1 ≤ w3.heap.size := by have := gr1.size; simp at this; omega
    obtain ⟨W3, hW3⟩ : ∃ X, X = w3.setCell ⟨h, 2, none⟩ (.slice (some ⟨g1, 0, none⟩) (j + 1) cap1) := ⟨_, rfl⟩
    have hst3 : Hid (w3.setCell ⟨h, 2, none⟩ (.slice (some ⟨g1, 0, none⟩) (j + 1) cap1) = W3) := hW3.symm
    have HF : Hid (BoxL W3 h [.slice (some ⟨bu, ou, none⟩) k uc, .slice (some ⟨bu, ou, none⟩) k uc, .slice (some ⟨g1, 0, none⟩) (j + 1) cap1, .int .i64 r, .int .i64 (g + 1)] ∧ W3.ownsRow (h + 1) 9 1 (.slice (some ⟨g1, 0, none⟩) (j + 1) cap1) (j + 1) (((pgL bs US).take (j + 1)).map Value.string) ∧ Below w2.heap.size w2 W3 ∧ h + 1 ≤ W3.heap.size) := by
     show _ ∧ _
     rw [hW3]
     refine ⟨bW3.set 2 _, by rw [hnx.out]; exact ownsRow_setCell_below own1 (a := ⟨h, 2, none⟩) (Nat.lt_succ_self h) _, hb3.setCell (p := ⟨h, 2, none⟩) (Nat.le_of_eq Hh.out.symm) _, by simpa using hsz3⟩
    have q0 := bW0.1 2 _ rfl
    have z0 := bD0.1 0 _ rfl
    have z1 := (bD0.alloc (.cells #[.string y] 9)).1 0 _ rfl
    have bD3 := (bD0.alloc (.cells #[.string y] 9)).grown gr1 (fun k hk => by have := hrow k hk; omega)
    have z2 := bD3.1 0 _ rfl
    have z3 := (bD3.off (k := h) (i := 2) (u := .slice (some ⟨g1, 0, none⟩) (j + 1) cap1) (by omega)).1 0 _ rfl
    rw [hst3.out] at z3
    have p0 := bA.1 2 _ rfl
    have o0 := bW3.1 2 _ rfl
    have f0 := bW3.2 2 (by simp)
    clear hown hown0 gr1 at1 own1 bW3 hb3 hsz3 hnx bW hrow hrow2 ge1 hbel hsz hwb hV0 hB0 hbel0 bW0 hsz0 bD0 bA hW3 dy0 bD3
    refine region_worlds (by kernel_rfl) [7, 8, 10] (pageV h w.heap.size b o j V0.heap.size g1 (j + 1) cap1 v2 (.slice (some ⟨b, o, none⟩) n c) y) (worldsP V0 (V0.alloc (.cells #[.string y] 9)) w3 W3) (by kernel_rfl) (by kernel_rfl) HV0.out.symm ?step 11 rfl ?done
    case step =>
     intro i o ho kk a2 hkk hmay hdf hsz hdep hsame
     match i, ho with
     | 0, ho =>
      cases ho
      have h10 := (hsame 10 rfl)
      exact val_op rfl (wanted_free rfl) (by clear hdep hsame hsz hdf; (try simp only [pageV, worldsP]); go_simp) rfl rfl
     | 1, ho =>
      cases ho
      have h71 := (hdep 0 _ 71 rfl rfl rfl)
      simp only [pageV] at h71
      match kk, hkk, hmay with
      | 0, _, hq => first | (cases hq; done) | (exact val_op rfl (wanted_free rfl) (by clear hdep hsame hsz hdf; (try simp only [pageV, worldsP]); go_simp) rfl rfl)
      | 1, _, hq => first | (cases hq; done) | (exact val_op rfl (wanted_free rfl) (by clear hdep hsame hsz hdf; (try simp only [pageV, worldsP]); go_simp) rfl rfl)
      | 2, _, hq => first | (cases hq; done) | (exact val_op rfl (wanted_free rfl) (by clear hdep hsame hsz hdf; (try simp only [pageV, worldsP]); go_simp) rfl rfl)
      | 3, _, hq => first | (cases hq; done) | (exact val_op rfl (wanted_free rfl) (by clear hdep hsame hsz hdf; (try simp only [pageV, worldsP]); go_simp) rfl rfl)
      | kk + 4, hkk, _ => simp at hkk
     | 2, ho =>
      cases ho
      have h2 := (hsame 2 rfl)
      exact val_op rfl (wanted_free rfl) (by clear hdep hsame hsz hdf; (try simp only [pageV, worldsP]); go_simp) rfl rfl
     | 3, ho =>
      cases ho
      have h73 := (hdep 2 _ 73 rfl rfl rfl)
      simp only [pageV] at h73
      match kk, hkk, hmay with
      | 0, _, hq => first | (cases hq; done) | (exact val_op rfl (wanted_free rfl) (by clear hdep hsame hsz hdf; (try simp only [pageV, worldsP]); go_simp) rfl rfl)
      | 1, _, hq => first | (cases hq; done) | (exact val_op rfl (wanted_free rfl) (by clear hdep hsame hsz hdf; (try simp only [pageV, worldsP]); go_simp) rfl rfl)
      | 2, _, hq => first | (cases hq; done) | (exact val_op rfl (wanted_free rfl) (by clear hdep hsame hsz hdf; (try simp only [pageV, worldsP]); go_simp) rfl rfl)
      | 3, _, hq => first | (cases hq; done) | (exact val_op rfl (wanted_free rfl) (by clear hdep hsame hsz hdf; (try simp only [pageV, worldsP]); go_simp) rfl rfl)
      | kk + 4, hkk, _ => simp at hkk
     | 4, ho =>
      cases ho
      have h11 := (hsame 11 rfl)
      exact val_op rfl (wanted_free rfl) (by clear hdep hsame hsz hdf; (try simp only [pageV, worldsP]); go_simp) rfl rfl
     | 5, ho =>
      cases ho
      have h74 := (hdep 3 _ 74 rfl rfl rfl)
      have h75 := (hdep 4 _ 75 rfl rfl rfl)
      simp only [pageV] at h74 h75
      exact val_op rfl (wanted_free rfl) (by clear hdep hsame hsz hdf; (try simp only [pageV, worldsP]); go_simp) rfl rfl
     | 6, ho =>
      cases ho
      have h76 := (hdep 5 _ 76 rfl rfl rfl)
      simp only [pageV] at h76
      match kk, hkk, hmay with
      | 0, _, hq => first | (cases hq; done) | (exact val_op rfl (wanted_free rfl) (by clear hdep hsame hsz hdf; (try simp only [pageV, worldsP]); go_simp) rfl rfl)
      | 1, _, hq => first | (cases hq; done) | (exact val_op rfl (wanted_free rfl) (by clear hdep hsame hsz hdf; (try simp only [pageV, worldsP]); go_simp) rfl rfl)
      | 2, _, hq => first | (cases hq; done) | (exact val_op rfl (wanted_free rfl) (by clear hdep hsame hsz hdf; (try simp only [pageV, worldsP]); go_simp) rfl rfl)
      | 3, _, hq => first | (cases hq; done) | (exact val_op rfl (wanted_free rfl) (by clear hdep hsame hsz hdf; (try simp only [pageV, worldsP]); go_simp) rfl rfl)
      | kk + 4, hkk, _ => simp at hkk
     | 7, ho =>
      cases ho
      have h77 := (hdep 6 _ 77 rfl rfl rfl)
      simp only [pageV] at h77
      match kk, hkk, hmay with
      | 0, _, _ => exact val_op rfl (wanted_free rfl) (by clear hdep hsame hsz hdf; (try simp only [pageV, worldsP]); go_simp) rfl rfl
      | 1, _, hq => cases hq
      | 2, _, hq => cases hq
      | 3, _, hq => cases hq
      | kk + 4, hkk, _ => simp at hkk
     | 8, ho =>
      cases ho
      have h72 := eval_tmp (hdep 1 _ 72 rfl rfl rfl)
      have h78 := eval_tmp (hdep 7 _ 78 rfl rfl rfl)
      simp only [pageV] at h72 h78
      match kk, hkk, hmay with
      | 0, _, hq => cases hq
      | 1, _, _ => exact val_append rfl (wanted_free rfl) rfl h72 h78 hrun8 rfl rfl
      | 2, _, hq => cases hq
      | 3, _, hq => cases hq
      | kk + 4, hkk, _ => simp at hkk
     | 9, ho =>
      cases ho
      have h10 := (hsame 10 rfl)
      exact val_op rfl (wanted_free rfl) (by clear hdep hsame hsz hdf; (try simp only [pageV, worldsP]); go_simp) rfl rfl
     | 10, ho =>
      cases ho
      have h80 := (hdep 9 _ 80 rfl rfl rfl)
      have h79 := (hdep 8 _ 79 rfl rfl rfl)
      simp only [pageV] at h80 h79
      match kk, hkk, hmay with
      | 0, _, hq => cases hq
      | 1, _, hq => cases hq
      | 2, _, _ => exact val_skip rfl (wanted_free rfl) rfl (by clear hdep hsame hsz hdf; simp only [worldsP]; go_simp; try exact hst3.out) rfl
      | 3, _, hq => cases hq
      | kk + 4, hkk, _ => simp at hkk
     | kk + 11, ho => simp at ho
    case done =>
     simp [filledN, pageV, worldsP]
     clear q0 z0 z1 z2 z3 p0 o0 f0 hrun8 hst3 HV0 dy
     go_wp2
     go_roundw
     case rel => exact ⟨j + 1, .slice (some ⟨g1, 0, none⟩) (j + 1) cap1, by omega, by go_num, HF.out⟩
     case measure => simp [intOf]; omega
   | false =>
    rw [if_neg (by decide)] at hnx
    obtain ⟨g1, cap1, w3, run1, own1, gr1, at1, ge1, _⟩ := push_S wr (h + 1) v2 j ((pgL bs US).take j) ByteArray.empty hown hsz (by omega)
    have bW3 := (bW.alloc (.cells #[.string ByteArray.empty] 9)).grown gr1 hrow
    have hb3 : Below w2.heap.size w2 w3 := (hbel.alloc hbel.size _).grown gr1 (by simp; exact Nat.le_succ_of_le hbel.size) hrow2
    have hsz3 : h + 1 ≤ w3.heap.size := by have := gr1.size; simp at this; omega
    have HF : Hid (BoxL (w3.setCell ⟨h, 2, none⟩ (.slice (some ⟨g1, 0, none⟩) (j + 1) cap1)) h [.slice (some ⟨bu, ou, none⟩) k uc, .slice (some ⟨bu, ou, none⟩) k uc, .slice (some ⟨g1, 0, none⟩) (j + 1) cap1, .int .i64 r, .int .i64 (g + 1)] ∧ (w3.setCell ⟨h, 2, none⟩ (.slice (some ⟨g1, 0, none⟩) (j + 1) cap1)).ownsRow (h + 1) 9 1 (.slice (some ⟨g1, 0, none⟩) (j + 1) cap1) (j + 1) (((pgL bs US).take (j + 1)).map Value.string) ∧ Below w2.heap.size w2 (w3.setCell ⟨h, 2, none⟩ (.slice (some ⟨g1, 0, none⟩) (j + 1) cap1)) ∧ h + 1 ≤ (w3.setCell ⟨h, 2, none⟩ (.slice (some ⟨g1, 0, none⟩) (j + 1) cap1)).heap.size) := by
     refine ⟨bW3.set 2 _, by rw [hnx.out]; exact ownsRow_setCell_below own1 (a := ⟨h, 2, none⟩) (Nat.lt_succ_self h) _, hb3.setCell (p := ⟨h, 2, none⟩) (Nat.le_of_eq Hh.out.symm) _, by simpa using hsz3⟩
    have q0 := bW.1 2 _ rfl
    have q0' := (bW.alloc (.cells #[.string ByteArray.empty] 9)).1 2 _ rfl
    have k0 := bW3.1 2 _ rfl
    have k2 := bW3.2 2 (by simp)
    clear hown gr1 at1 own1 bW3 hb3 hsz3 hnx bW hrow hrow2 ge1 hbel hsz hwb
    go_wp2_with (at_builtin; refine Lib.wpList_append_run _ rfl _ _ _ _ rfl _ _ rfl rfl _ _ run1 ?_)
    go_roundw
    case rel => exact ⟨j + 1, .slice (some ⟨g1, 0, none⟩) (j + 1) cap1, by omega, by go_num, HF.out⟩
    case measure => simp [intOf]; omega
  ·
   obtain rfl : j = k := by omega
   have hpl : (pgL bs US).take j = pgL bs US := List.take_of_length_le (by rw [pgL_length, ← HU.out]; exact Nat.le_refl _)
   rw [hpl] at hown
   obtain ⟨a3, c3, rfl, -, hP3, -⟩ := owns_S hown (pgL_small US (fun s hs => by
    obtain ⟨i, hi, rfl⟩ := List.getElem_of_mem hs
    obtain ⟨_, _, _, _, _, hsz⟩ := HS.out.2.2 i _ (List.getElem?_eq_getElem hi)
    exact hsz))
   obtain ⟨PA, hPA⟩ : ∃ p, p = paE US US (pgL bs US) r (g + 1) m := ⟨_, rfl⟩
   have hA : Below wr.heap.size wr (wr.alloc (.cells #[.int .i64 m] 3)) := (Below.refl _ _).alloc (Nat.le_refl _) _
   have cC : Calls Tryz.prog 53 #[.agg #[.slice ua j uc, .slice ua j uc, .slice a3 j c3, .int .i64 r, .int .i64 (g + 1)], .slice (some ⟨wr.heap.size, 0, none⟩) 1 1] (wr.alloc (.cells #[.int .i64 m] 3)) fun e w' => ∃ x1 x2 x3, e = .returned (.tuple #[.agg #[.int .i64 x1, .int .i64 x2, .int .i64 x3], .int .i64 PA]) ∧ Below wr.heap.size wr w' := by
    have := refCheck_any ua ua a3 j uc j uc j c3 US US (pgL bs US) r (g + 1) (some ⟨wr.heap.size, 0, none⟩) 1 1 [m] (wr.alloc (.cells #[.int .i64 m] 3)) HU.out HU.out (by rw [pgL_length]; exact HU.out) rfl ((HI.out.below hbel).below hA) ((HI.out.below hbel).below hA) (hP3.below hA) (isI_one wr m) (by omega)
    rw [show checkE (rightW US US (pgL bs US) r (g + 1)) US (treeS US (pgL bs US) r (g + 1)) [(m : Int)] = PA from hPA.symm] at this
    exact this.mono fun e w' ⟨he, hb⟩ => ⟨_, _, _, he, Below.tr hA hb⟩
   rw [← hPA] at HOK
   have I3 : Hid (IsS wr a3 c3 (pgL bs US)) := hP3
   have I1 : Hid (IsB wr ua uc US) := HI.out.below hbel
   replace HB := Below.tr HB hbel
   replace bS := bS.below hbel
   replace bO := bO.below hbel
   have s2 := bS.1 2 _ rfl
   have v0 := bW.1 0 _ rfl
   have v1 := bW.1 1 _ rfl
   have v2 := bW.1 2 _ rfl
   have v3 := bW.1 3 _ rfl
   have v4 := bW.1 4 _ rfl
   clear hown hP3 hbel hsz hpl hPA hA bD HI hwb
   by_cases e6 : PA = 0
   ·
    have HE : Hid (OK = true) := by show _ = _; rw [HOK.out]; exact decide_eq_true e6
    subst e6
    clear HOK
    go_wp2_with (go_at_call 53; refine cC.mono ?_; rintro e w4 ⟨x1, x2, x3, rfl, hb⟩; have hC := (Below.refl w4.heap.size w4).alloc (Nat.le_refl _) (.cells #[.int .i64 x1, .int .i64 x2, .int .i64 x3] 96); replace HB := Below.tr (Below.tr HB hb) hC; replace bO := (bO.below hb).below hC; replace bW := (bW.below hb).below hC; replace I1 : Hid (IsB _ ua uc US) := (I1.out.below hb).below hC; replace I3 : Hid (IsS _ a3 c3 (pgL bs US)) := (I3.out.below hb).below hC; clear hb hC s2 v0 v1 v2 v3 v4; have v0 := bW.1 0 _ rfl; have v1 := bW.1 1 _ rfl; have v2 := bW.1 2 _ rfl; have v3 := bW.1 3 _ rfl; have v4 := bW.1 4 _ rfl; have q0 := bO.1 0 _ rfl; have q1 := bO.1 1 _ rfl; have q2 := bO.1 2 _ rfl; have q3 := bO.1 3 _ rfl; have q4 := bO.1 4 _ rfl; have f0 := bO.2 0 (by simp); have f1 := bO.2 1 (by simp); have f2 := bO.2 2 (by simp); have f3 := bO.2 3 (by simp); have f4 := bO.2 4 (by simp))
    refine bodyPost_ret (v := .tuple #[.agg #[.slice ua j uc, .slice ua j uc, .slice a3 j c3, .int .i64 r, .int .i64 (g + 1)], .bool true]) (by simp [results, Tryz.results39, go_sem, q0, q1, q2, q3, q4] <;> exact e6) rfl ?_
    refine ⟨_, _, _, _, _, by rw [HE.out], fun _ => ⟨ua, uc, a3, c3, rfl, rfl, rfl, rfl, rfl, I1.out.offBox bO (fun i u h => (zeros5 i u h).1) [.slice ua j uc, .slice ua j uc, .slice a3 j c3, .int .i64 r, .int .i64 (g + 1)] rfl, I3.out.offBox bO (fun i u h => (zeros5 i u h).2) [.slice ua j uc, .slice ua j uc, .slice a3 j c3, .int .i64 r, .int .i64 (g + 1)] rfl⟩, ⟨_, _, _, _, _, _, _, _, _, _, _, rfl, rfl, rfl, rfl, rfl⟩, Below.setL (h := w.heap.size + 1 + 1) (by omega) [.slice ua j uc, .slice ua j uc, .slice a3 j c3, .int .i64 r, .int .i64 (g + 1)] 0 _ HB⟩
   ·
    have HE : Hid (OK = false) := by show _ = _; rw [HOK.out]; exact decide_eq_false e6
    clear HOK
    go_wp2_with (go_at_call 53; refine cC.mono ?_; rintro e w4 ⟨x1, x2, x3, rfl, hb⟩; have hC := (Below.refl w4.heap.size w4).alloc (Nat.le_refl _) (.cells #[.int .i64 x1, .int .i64 x2, .int .i64 x3] 96); replace HB := Below.tr (Below.tr HB hb) hC; replace bO := (bO.below hb).below hC; replace bW := (bW.below hb).below hC; replace I1 : Hid (IsB _ ua uc US) := (I1.out.below hb).below hC; replace I3 : Hid (IsS _ a3 c3 (pgL bs US)) := (I3.out.below hb).below hC; clear hb hC s2 v0 v1 v2 v3 v4; have v0 := bW.1 0 _ rfl; have v1 := bW.1 1 _ rfl; have v2 := bW.1 2 _ rfl; have v3 := bW.1 3 _ rfl; have v4 := bW.1 4 _ rfl; have q0 := bO.1 0 _ rfl; have q1 := bO.1 1 _ rfl; have q2 := bO.1 2 _ rfl; have q3 := bO.1 3 _ rfl; have q4 := bO.1 4 _ rfl; have f0 := bO.2 0 (by simp); have f1 := bO.2 1 (by simp); have f2 := bO.2 2 (by simp); have f3 := bO.2 3 (by simp); have f4 := bO.2 4 (by simp))
    refine bodyPost_ret (v := .tuple #[.agg #[.slice ua j uc, .slice ua j uc, .slice a3 j c3, .int .i64 r, .int .i64 (g + 1)], .bool false]) (by simp [results, Tryz.results39, go_sem, q0, q1, q2, q3, q4] <;> exact e6) rfl ?_
    refine ⟨_, _, _, _, _, by rw [HE.out], fun _ => ⟨ua, uc, a3, c3, rfl, rfl, rfl, rfl, rfl, I1.out.offBox bO (fun i u h => (zeros5 i u h).1) [.slice ua j uc, .slice ua j uc, .slice a3 j c3, .int .i64 r, .int .i64 (g + 1)] rfl, I3.out.offBox bO (fun i u h => (zeros5 i u h).2) [.slice ua j uc, .slice ua j uc, .slice a3 j c3, .int .i64 r, .int .i64 (g + 1)] rfl⟩, ⟨_, _, _, _, _, _, _, _, _, _, _, rfl, rfl, rfl, rfl, rfl⟩, Below.setL (h := w.heap.size + 1 + 1) (by omega) [.slice ua j uc, .slice ua j uc, .slice a3 j c3, .int .i64 r, .int .i64 (g + 1)] 0 _ HB⟩
end Go.Proofs.YtaobfgplheoefaaGreat
namespace Go.Proofs.YtaobfgplheoefaaGreat
open Go.RowKit Plain
set_option linter.unusedVariables false
theorem okS_last (s : ByteArray) (k : Nat) (hk : s.size = k + 1) (h : s.size ≤ 4096) : okS s = ((s[k].toNat : Int) != 0) := by
 have hb : byteAt s (s.size - 1) = s[k] := by
  have e : s.size - 1 = k := by omega
  rw [e]
  unfold byteAt
  rw [List.getElem?_eq_getElem (show k < s.data.toList.length by show k < s.size; omega)]
  rfl
 rw [Bool.eq_iff_iff, okS_iff]
 unfold Even
 rw [hb]
 constructor
 ·
  rintro ⟨_, h2⟩
  have h3 := h2 (by omega)
  have : s[k].toNat ≠ 0 := fun h => h3 (UInt8.toNat_inj.1 h)
  simpa using this
 ·
  intro h2
  refine ⟨h, fun _ h3 => ?_⟩
  rw [h3] at h2
  exact absurd h2 (by decide)
set_option maxRecDepth 20000 in
set_option maxHeartbeats 400000 in
theorem trimmed_any (s : ByteArray) (w : World) (hs : s.size ≤ maxLen) :
  Calls Tryz.prog 47 #[.string s] w fun e w' => e = .returned (.bool (okS s)) ∧ w = w' := by
 have hs' : s.size ≤ 9223372036854775807 := hs
 by_cases h : s.size ≤ 4096
 ·
  have h' : (s.size : Int) ≤ 4096 := by omega
  by_cases h0 : s.size = 0
  ·
   have e : Hid (okS s = true) := by
    show _ = _
    rw [okS_iff]
    exact ⟨h, fun hh => by omega⟩
   have h0' : ((s.size : Int) == 0) = true := by simp [h0]
   go_enter Tryz.func47, Tryz.ntmps47
   go_wp2
   all_goals first
    | omega
    | (go_ret; exact ⟨ret_bool e.out.symm, rfl⟩)
  ·
   obtain ⟨k, hk⟩ : ∃ k, s.size = k + 1 := ⟨s.size - 1, by omega⟩
   have e : Hid (okS s = ((s[k].toNat : Int) != 0)) := okS_last s k hk h
   have h0' : ((s.size : Int) == 0) = false := by simp [h0]
   have hk' : (s.size : Int) = (k : Int) + 1 := by omega
   go_enter Tryz.func47, Tryz.ntmps47
   go_wp2
   go_ret
   refine ⟨ret_bool ?_, rfl⟩
   rw [e.out, show (((k : Int) + 1 == 0) = false) by simp; omega]
   rfl
 ·
  have e : Hid (okS s = false) := by
   show _ = _
   unfold okS
   rw [decide_eq_false h]; rfl
  have h' : ¬ (s.size : Int) ≤ 4096 := by omega
  go_enter Tryz.func47, Tryz.ntmps47
  go_wp2
  go_ret
  exact ⟨ret_bool e.out.symm, rfl⟩
set_option maxHeartbeats 1000000 in
theorem refRight_any (a a' : Option Addr) (c c' : Nat) (bs : List ByteArray) (ps : List (Int × ByteArray)) (w : World) (hS : IsS w a c bs) (hP : IsP w a' c' ps) :
  Calls Tryz.prog 18 #[.agg #[.slice a bs.length c, .slice a' ps.length c']] w fun e w' => e = .returned (.bool (rightD bs ps)) ∧ Below w.heap.size w w' := by
 have hB0 : Below w.heap.size w (w.alloc (.cells #[.slice a bs.length c, .slice a' ps.length c'] 25)) := (Below.refl _ _).alloc (Nat.le_refl _) _
 have HS : Hid (IsS _ a c bs) := hS.below hB0
 have HP : Hid (IsP _ a' c' ps) := hP.below hB0
 have hm : bs.length ≤ 9223372036854775807 := Nat.le_trans hS.1 hS.2.1
 have hm' : ps.length ≤ 9223372036854775807 := Nat.le_trans hP.1 hP.2.1
 clear hS hP
 by_cases hsz : 1 ≤ bs.length ∧ bs.length ≤ 2048 ∧ ps.length ≤ 2048
 ·
  obtain ⟨h1, h2, h3⟩ := hsz
  have h1' : 1 ≤ (bs.length : Int) := by omega
  have h2' : (bs.length : Int) ≤ 2048 := by omega
  have h3' : (ps.length : Int) ≤ 2048 := by omega
  go_enter Tryz.func18, Tryz.ntmps18
  go_wp2
  go_loop [26] (fun v => ∃ j : Nat, j ≤ bs.length ∧ v = .int .i64 j ∧ ∀ y ∈ bs.take j, okS y = true) (fun v => bs.length - (intOf v).toNat)
  case atStart => exact ⟨0, by omega, rfl, fun y hy => by simp at hy⟩
  case round =>
   obtain ⟨j, hj, rfl, HA⟩ := hrel
   by_cases hlt : j < bs.length
   ·
    obtain ⟨x, hx⟩ : ∃ x, bs[j]? = some x := ⟨_, List.getElem?_eq_getElem hlt⟩
    obtain ⟨b, o, rfl, hlb, hc, hxs⟩ := HS.out.2.2 j x hx
    have hA' : Hid (okS x = true → ∀ y ∈ bs.take (j + 1), okS y = true) := devTake_all HA hx
    have hF : Hid (okS x = false → rightD bs ps = false) := rightD_block hx
    clear HA hx hlb
    have hlt' : (j : Int) < bs.length := by omega
    cases hok : okS x with
    | true =>
     go_wp2_with (go_at_call 47; refine (trimmed_any x _ hxs).mono ?_; rw [hok]; rintro e w3 ⟨rfl, rfl⟩)
     go_round
     case rel => exact ⟨j + 1, by omega, by go_num, hA'.out hok⟩
     case measure => simp [intOf]; omega
    | false =>
     go_wp2_with (go_at_call 47; refine (trimmed_any x _ hxs).mono ?_; rw [hok]; rintro e w3 ⟨rfl, rfl⟩)
     go_ret
     exact ⟨ret_bool (hF.out hok).symm, hB0⟩
   ·
    obtain rfl : j = bs.length := by omega
    rw [List.take_length] at HA
    have HB : Hid (∀ y ∈ bs, okS y = true) := HA
    clear HA hj hlt
    obtain ⟨W, hW⟩ : ∃ W, W = w.alloc (.cells #[.slice a bs.length c, .slice a' ps.length c'] 25) := ⟨_, rfl⟩
    go_wp2
    go_loopw [37] (fun v wr => ∃ j : Nat, j ≤ ps.length ∧ v = .int .i64 j ∧ (∀ y ∈ ps.take j, okW bs.length y = true) ∧ Below W.heap.size W wr) (fun v _ => ps.length - (intOf v).toNat)
    case atStart => exact ⟨0, by omega, rfl, fun y hy => by simp at hy, by rw [hW]; exact Below.refl _ _⟩
    case round =>
     obtain ⟨j, hj, rfl, HA, hbel⟩ := hrel
     by_cases hlt : j < ps.length
     ·
      obtain ⟨p, hx⟩ : ∃ x, ps[j]? = some x := ⟨_, List.getElem?_eq_getElem hlt⟩
      rw [← hW] at HP hB0
      obtain ⟨b, o, rfl, hlb, hc1, hc2, hxs, hlo, hhi⟩ := HP.out.2.2 j p hx
      rw [← hbel.cell (p := ⟨b, o + j * 2, none⟩) hlb] at hc1
      rw [← hbel.cell (p := ⟨b, o + j * 2 + 1, none⟩) hlb] at hc2
      have hA' : Hid (okW bs.length p = true → ∀ y ∈ ps.take (j + 1), okW bs.length y = true) := devTake_all HA hx
      have hF : Hid (okW bs.length p = false → rightD bs ps = false) := rightD_write hx
      have hlt' : (j : Int) < ps.length := by omega
      have hBW := hbel.size
      have hBw : Below w.heap.size w wr := Below.tr hB0 hbel
      clear HA hx hlb HS HP hW
      by_cases hh : 0 ≤ p.1 ∧ p.1 < bs.length
      ·
       obtain ⟨hp0, hp1⟩ := hh
       cases hok : okS p.2 with
       | true =>
        have hw1 : Hid (okW bs.length p = true) := by show _ = _; unfold okW; rw [decide_eq_true hp0, decide_eq_true hp1, hok]; rfl
        go_wp2_with (go_at_call 47; refine (trimmed_any p.2 _ hxs).mono ?_; rw [hok]; rintro e w4 ⟨rfl, rfl⟩)
        go_roundw
        case rel => exact ⟨j + 1, by omega, by go_num, hA'.out hw1.out, hbel.alloc hBW _⟩
        case measure => simp [intOf]; omega
       | false =>
        have hw1 : Hid (okW bs.length p = false) := by show _ = _; unfold okW; rw [decide_eq_true hp0, decide_eq_true hp1, hok]; rfl
        go_wp2_with (go_at_call 47; refine (trimmed_any p.2 _ hxs).mono ?_; rw [hok]; rintro e w4 ⟨rfl, rfl⟩)
        go_ret
        exact ⟨ret_bool (hF.out hw1.out).symm, hBw.alloc hBw.size _⟩
      ·
       have hw1 : Hid (okW bs.length p = false) := by
        show _ = _
        rw [Bool.eq_false_iff]
        exact fun h => hh ((okW_iff _ _).1 h).1
       go_wp2
       all_goals first
        | omega
        | (go_ret; exact ⟨ret_bool (hF.out hw1.out).symm, hBw.alloc hBw.size _⟩)
     ·
      obtain rfl : j = ps.length := by omega
      rw [List.take_length] at HA
      have ht : Hid (rightD bs ps = true) := (rightD_iff bs ps).2 ⟨⟨h1, h2, h3⟩, HB.out, HA⟩
      rw [← hW] at hB0
      have hBw : Below w.heap.size w wr := Below.tr hB0 hbel
      clear HA
      go_wp2
      go_ret
      exact ⟨ret_bool ht.out.symm, hBw⟩
 ·
  have hf : Hid (rightD bs ps = false) := rightD_size hsz
  go_enter Tryz.func18, Tryz.ntmps18
  go_wp2
  all_goals first
   | (go_ret; exact ⟨ret_bool hf.out.symm, hB0⟩)
   | omega
theorem isS_head {w : World} {a : Option Addr} {c : Nat} {bs : List ByteArray} (h : IsS w a c bs) : IsS w a c (bs.take 2) := by
 refine ⟨Nat.le_trans (by simp; omega) h.1, h.2.1, fun j x hx => ?_⟩
 rw [List.getElem?_take] at hx
 split at hx
 ·
  exact h.2.2 j x hx
 ·
  cases hx
theorem head_two {bs : List ByteArray} (h : rightD bs [] = true) (h2 : 2 ≤ bs.length) : bs.take 2 = [readS bs [] 0, readS bs [] 1] := by
 have e0 := readS_ok (k := 0) h (by omega)
 have e1 := readS_ok (k := 1) h (by omega)
 rw [show readS bs [] 0 = _ from e0, show readS bs [] 1 = _ from e1]
 match bs, h2 with
 | x :: y :: l, _ => rfl
theorem wdB_iff {bs : List ByteArray} {t : ByteArray} {m : Nat} (hm : suM t = m) : wdB (blk bs m) bs (suG t) (suR t) (suZ t) m = true ↔ wdE bs t = 0 := by
 unfold wdB wdE wdU
 rw [hm, decide_eq_true_eq]
 show _ ↔ (if usE (blk bs m) (suG t) (suZ t) = 0 then _ else _) = _
 constructor
 ·
  rintro ⟨h1, h2⟩
  rw [if_pos h1]
  exact h2
 ·
  intro h
  split at h
  ·
   rename_i h1
   exact ⟨h1, h⟩
  ·
   cases h
set_option maxRecDepth 20000 in
set_option maxHeartbeats 8000000 in
theorem refMount_any (a a' : Option Addr) (n n' c c' : Nat) (bs : List ByteArray) (ps : List (Int × ByteArray)) (t : ByteArray) (i : Nat) (w : World) (hn : n = bs.length) (hn' : n' = ps.length) (hS : IsS w a c bs) (hP : IsP w a' c' ps) (hbest : Best [readS bs ps 0, readS bs ps 1] t i) :
  Calls Tryz.prog 13 #[.agg #[.slice a n c, .slice a' n' c']] w fun e w' => ∃ v, e = .returned (.tuple #[v, .int .i64 (mtE bs ps t)]) ∧ FoundA (mtE bs ps t) bs t i w' v ∧ Below w.heap.size w w' := by
 obtain ⟨W0, hW0⟩ : ∃ W0, W0 = (w.alloc (.cells #[.slice a n c, .slice a' n' c'] 25)).alloc (.cells #[.int .i64 0, .int .i64 0, .int .i64 0, .int .i64 0, .int .i64 0, .slice none 0 0, .slice none 0 0, .slice none 0 0, .int .i64 0, .int .i64 0, .slice none 0 0] 42) := ⟨_, rfl⟩
 have HB : Below w.heap.size w W0 := by rw [hW0]; exact ((Below.refl _ _).alloc (Nat.le_refl _) _).alloc (by simp) _
 have bD : BoxL W0 w.heap.size [.slice a n c, .slice a' n' c'] := by rw [hW0]; exact (boxL_new w _ _ rfl).alloc _
 have bF : BoxL W0 (w.heap.size + 1) [.int .i64 0, .int .i64 0, .int .i64 0, .int .i64 0, .int .i64 0, .slice none 0 0, .slice none 0 0, .slice none 0 0, .int .i64 0, .int .i64 0, .slice none 0 0] := by rw [hW0]; exact boxL_new _ _ _ (by simp)
 have hWs : W0.heap.size = w.heap.size + 2 := by rw [hW0]; simp
 have cR : Calls Tryz.prog 18 #[.agg #[.slice a n c, .slice a' n' c']] W0 fun e w' => e = .returned (.bool (rightD bs ps)) ∧ Below W0.heap.size W0 w' := by
  have := refRight_any a a' c c' bs ps W0 (hS.below HB) (hP.below HB)
  rw [← hn, ← hn'] at this
  exact this
 have d0 := bD.1 0 _ rfl
 have d1 := bD.1 1 _ rfl
 cases hr : rightD bs ps with
 | false =>
  have HE : Hid (mtE bs ps t = 1) := mt_arg (fun h => by rw [hr] at h; cases h.1)
  rw [hr] at cR
  clear hS hP hbest hn hn' hr
  go_enter Tryz.func13, Tryz.ntmps13
  go_wp2_with (first
   | (go_at_call 18; rw [← hW0]; refine cR.mono ?_; rintro e w1 ⟨rfl, hb⟩; replace HB := Below.tr HB hb; replace bD := bD.below hb; replace bF := bF.below hb; clear hb d0 d1; have d0 := bD.1 0 _ rfl; have d1 := bD.1 1 _ rfl; obtain ⟨⟨q0, q1, q2, q3, q4, q5, q6, q7, q8, q9, q10⟩, f0, f1, f2, f3, f4, f5, f6, f7, f8, f9, f10⟩ := bF.cells11))
  refine bodyPost_ret (v := .tuple #[noFound, .int .i64 1]) (by simp [results, Tryz.results13, go_sem, noFound, q0, q1, q2, q3, q4, q5, q6, q7, q8, q9, q10]) rfl ?_
  rw [HE.out]
  exact ⟨_, rfl, foundA_no (by decide) _ _ _ _, Below.setL (Nat.le_succ _) [.int .i64 0, .int .i64 0, .int .i64 0, .int .i64 0, .int .i64 0, .slice none 0 0, .slice none 0 0, .slice none 0 0, .int .i64 0, .int .i64 0, .slice none 0 0] 0 _ HB⟩
 | true =>
 rw [hr] at cR
 by_cases h0 : ps.length = 0
 case neg =>
  have HE : Hid (mtE bs ps t = 1) := mt_arg (fun h => h0 h.2)
  have hn0 : (0 : Int) < n' := by omega
  clear hS hP hbest hn hn' hr
  go_enter Tryz.func13, Tryz.ntmps13
  go_wp2_with (first
   | (go_at_call 18; rw [← hW0]; refine cR.mono ?_; rintro e w1 ⟨rfl, hb⟩; replace HB := Below.tr HB hb; replace bD := bD.below hb; replace bF := bF.below hb; clear hb d0 d1; have d0 := bD.1 0 _ rfl; have d1 := bD.1 1 _ rfl; obtain ⟨⟨q0, q1, q2, q3, q4, q5, q6, q7, q8, q9, q10⟩, f0, f1, f2, f3, f4, f5, f6, f7, f8, f9, f10⟩ := bF.cells11))
  refine bodyPost_ret (v := .tuple #[noFound, .int .i64 1]) (by simp [results, Tryz.results13, go_sem, noFound, q0, q1, q2, q3, q4, q5, q6, q7, q8, q9, q10]) rfl ?_
  rw [HE.out]
  exact ⟨_, rfl, foundA_no (by decide) _ _ _ _, Below.setL (Nat.le_succ _) [.int .i64 0, .int .i64 0, .int .i64 0, .int .i64 0, .int .i64 0, .slice none 0 0, .slice none 0 0, .slice none 0 0, .int .i64 0, .int .i64 0, .slice none 0 0] 0 _ HB⟩
 case pos =>
 obtain rfl := List.length_eq_zero_iff.1 h0
 obtain rfl : n' = 0 := hn'
 clear h0
 by_cases hfew : bs.length < 24
 case pos =>
  have HE : Hid (mtE bs [] t = 120) := mt_few ⟨hr, rfl⟩ hfew
  have hf1 : (n : Int) < 24 := by omega
  clear hS hP hbest hn hr
  go_enter Tryz.func13, Tryz.ntmps13
  go_wp2_with (first
   | (go_at_call 18; rw [← hW0]; refine cR.mono ?_; rintro e w1 ⟨rfl, hb⟩; replace HB := Below.tr HB hb; replace bD := bD.below hb; replace bF := bF.below hb; clear hb d0 d1; have d0 := bD.1 0 _ rfl; have d1 := bD.1 1 _ rfl; obtain ⟨⟨q0, q1, q2, q3, q4, q5, q6, q7, q8, q9, q10⟩, f0, f1, f2, f3, f4, f5, f6, f7, f8, f9, f10⟩ := bF.cells11))
  refine bodyPost_ret (v := .tuple #[noFound, .int .i64 120]) (by simp [results, Tryz.results13, go_sem, noFound, q0, q1, q2, q3, q4, q5, q6, q7, q8, q9, q10]) rfl ?_
  rw [HE.out]
  exact ⟨_, rfl, foundA_no (by decide) _ _ _ _, Below.setL (Nat.le_succ _) [.int .i64 0, .int .i64 0, .int .i64 0, .int .i64 0, .int .i64 0, .slice none 0 0, .slice none 0 0, .slice none 0 0, .int .i64 0, .int .i64 0, .slice none 0 0] 0 _ HB⟩
 case neg =>
 have hf1 : ¬ (n : Int) < 24 := by omega
 have hRt : Hid (rightD bs [] = true ∧ ([] : List (Int × ByteArray)).length = 0) := ⟨hr, rfl⟩
 obtain ⟨⟨l1, l2, _⟩, _, _⟩ := (rightD_iff _ _).1 hr
 obtain ⟨b, o, rfl⟩ := hS.some (by omega)
 have HS : Hid (IsS w (some ⟨b, o, none⟩) c bs) := hS
 have HN : Hid (n = bs.length) := hn
 have cnc : n ≤ c := by rw [hn]; exact hS.1
 rw [← head_two hr (by omega)] at hbest
 have cC : ∀ V, Below w.heap.size w V → Calls Tryz.prog 38 #[.slice (some ⟨b, o, none⟩) 2 c] V fun e w' => e = .returned (.tuple #[.agg #[.int .i64 (suG t), .int .i64 (suR t), .int .i64 (suM t), .int .i64 (suZ t)], .int .i64 i, .int .i64 (chE t)]) ∧ Below V.heap.size V w' :=
  fun V hV => refChoose_any _ c (bs.take 2) 2 t i V (by simp; omega) (isS_head (HS.out.below hV)) hbest
 have mR : Hid (chE t = 0 → (1 ≤ suG t ∧ suG t ≤ 1099511627776) ∧ (24 ≤ suZ t ∧ suZ t ≤ 2048) ∧ (10 ≤ suM t ∧ suM t < suZ t)) := fun hc => ⟨(ch_right hc).1, (ch_right hc).2.1, (ch_right hc).2.2.2.1⟩
 have mA : Hid (¬ (chE t = 0 ∧ suZ t = n ∧ ¬ suG t = 1099511627776) → mtE bs [] t = 120) := fun h => mt_su hRt.out (by rw [← HN.out]; exact h)
 have mB : Hid (¬ wdE bs t = 0 → mtE bs [] t = 120) := fun h => mt_wd hRt.out h
 have mC : Hid (chE t = 0 → suZ t = n → ¬ suG t = 1099511627776 → wdE bs t = 0 → mtE bs [] t = 0) := fun h1 h2 h3 h4 => mt_ok hRt.out ⟨h1, by rw [← HN.out]; exact h2, h3⟩ h4
 have mD : Hid (∀ m : Nat, suM t = m → (wdB (blk bs m) bs (suG t) (suR t) (suZ t) m = true ↔ wdE bs t = 0)) := fun m hm => wdB_iff hm
 have mU : Hid (∀ m : Nat, suM t = m → wdU bs t = usL (blk bs m) (suG t) (suZ t)) := fun m hm => by unfold wdU; rw [hm]; rfl
 have mL : Hid (∀ m : Nat, suM t = m → suZ t = n → wdE bs t = 0 → (wdU bs t).length = n) := by
  intro m hm hz hw
  have h1 : usE (blk bs (suM t).toNat) (suG t) (suZ t) = 0 := by
   by_cases h : usE (blk bs (suM t).toNat) (suG t) (suZ t) = 0
   ·
    exact h
   ·
    rw [wd_us h] at hw; cases hw
  unfold wdU
  rw [hz] at h1 ⊢
  exact us_length h1
 have fZ : Hid (∀ E w', ¬ E = 0 → FoundA E bs t i w' noFound) := fun E w' h => foundA_no h bs t i w'
 have hF : Hid (∀ (w' : World) (a1 a2 a3 a4 : Option Addr) (c1 c2 c3 c4 k l : Nat), mtE bs [] t = 0 → k = (wdU bs t).length → l = (scanR (suG t) 0 ((bs.take 10).drop 2)).length → IsB w' a1 c1 (wdU bs t) → IsB w' a2 c2 (wdU bs t) → IsS w' a3 c3 (pgL bs (wdU bs t)) → IsS w' a4 c4 (scanR (suG t) 0 ((bs.take 10).drop 2)) → FoundA (mtE bs [] t) bs t i w' (.agg #[.int .i64 (suG t), .int .i64 (suR t), .int .i64 (suM t), .int .i64 (suZ t), .int .i64 i, .slice a1 k c1, .slice a2 k c2, .slice a3 k c3, .int .i64 (suR t), .int .i64 (suG t + 1), .slice a4 l c4])) :=
  fun w' a1 a2 a3 a4 c1 c2 c3 c4 k l h hk hl h1 h2 h3 h4 => foundA_ok h hk hl h1 h2 h3 h4
 have cS : ∀ V, Below w.heap.size w V → Calls Tryz.prog 40 #[.int .i64 (suG t), .slice (some ⟨b, o + 2, none⟩) 8 (c - 2)] V fun e w' => ∃ a4 c4, e = .returned (.slice a4 (scanR (suG t) 0 ((bs.take 10).drop 2)).length c4) ∧ IsS w' a4 c4 (scanR (suG t) 0 ((bs.take 10).drop 2)) ∧ Below V.heap.size V w' :=
  fun V hV => refRingScan_any (suG t) _ (c - 2) 8 ((bs.take 10).drop 2) V (by simp; omega) (isS_cut (a := none) (HS.out.below hV) (by omega)) (by omega)
 have cWd : ∀ (V : World) (g r z : Int) (m k : Nat), m < n → z = k → k ≤ n → k ≤ 2048 → 0 ≤ g → g ≤ 1099511627776 → Below w.heap.size w V → Calls Tryz.prog 39 #[.agg #[.slice (some ⟨b, o, none⟩) n c, .slice a' 0 c'], .agg #[.int .i64 g, .int .i64 r, .int .i64 m, .int .i64 z]] V fun e w' => ∃ v0 v1 v2 v3 v4, e = .returned (.tuple #[.agg #[v0, v1, v2, v3, v4], .bool (wdB (blk bs m) bs g r z m)]) ∧ (wdB (blk bs m) bs g r z m = true → ∃ ua uc a3 c3, v0 = .slice ua k uc ∧ v1 = .slice ua k uc ∧ v2 = .slice a3 k c3 ∧ v3 = .int .i64 r ∧ v4 = .int .i64 (g + 1) ∧ IsB w' ua uc (usL (blk bs m) g z) ∧ IsS w' a3 c3 (pgL bs (usL (blk bs m) g z))) ∧ (∃ x0 n0 d0 x1 n1 d1 x2 n2 d2 r4 g4, v0 = .slice x0 n0 d0 ∧ v1 = .slice x1 n1 d1 ∧ v2 = .slice x2 n2 d2 ∧ v3 = .int .i64 r4 ∧ v4 = .int .i64 g4) ∧ Below V.heap.size V w' :=
  fun V g r z m k h1 h2 h3 h4 h5 h6 h7 => refWood_any _ a' n 0 c c' bs g r z m k V HN.out h1 h2 h3 h4 h5 h6 (HS.out.below h7)
 have l2' : n ≤ 2048 := by rw [hn]; exact l2
 have l24 : 24 ≤ n := by omega
 clear hbest hP hS hn hr l1 l2 hfew
 obtain ⟨G, hG⟩ : ∃ G, G = suG t := ⟨_, rfl⟩
 obtain ⟨R, hR⟩ : ∃ R, R = suR t := ⟨_, rfl⟩
 obtain ⟨M, hM⟩ : ∃ M, M = suM t := ⟨_, rfl⟩
 obtain ⟨Z, hZ⟩ : ∃ Z, Z = suZ t := ⟨_, rfl⟩
 obtain ⟨CE, hCE⟩ : ∃ CE, CE = chE t := ⟨_, rfl⟩
 rw [← hG, ← hR, ← hM, ← hZ] at cC hF
 rw [← hCE] at cC mR mA mC
 rw [← hG, ← hZ, ← hM] at mR mU
 rw [← hG, ← hZ] at mA mC
 rw [← hM, ← hG, ← hR, ← hZ] at mD
 rw [← hM, ← hZ] at mL
 rw [← hG] at cS
 clear hG hR hM hZ hCE
 obtain ⟨SR, hSR⟩ : ∃ S, S = scanR G 0 ((bs.take 10).drop 2) := ⟨_, rfl⟩
 rw [← hSR] at cS hF
 clear hSR
 obtain ⟨l, hl⟩ : ∃ l, l = SR.length := ⟨_, rfl⟩
 rw [← hl] at cS hF
 clear hl
 obtain ⟨D, hD⟩ : ∃ D, D = wdE bs t := ⟨_, rfl⟩
 rw [← hD] at mB mC mD mL
 clear hD
 obtain ⟨E, hE⟩ : ∃ E, E = mtE bs [] t := ⟨_, rfl⟩
 rw [← hE] at mA mB mC hF ⊢
 clear hE
 obtain ⟨U, hU⟩ : ∃ U, U = wdU bs t := ⟨_, rfl⟩
 rw [← hU] at mU mL hF
 clear hU
 have c2i : (2 : Int) ≤ c := by omega
 have c10i : (10 : Int) ≤ c := by omega
 have c2n : ¬ c = 2 := by omega
 have c0n : ¬ c = 0 := by omega
 by_cases e1 : CE = 0
 case neg =>
  have HE : Hid (E = 120) := mA.out (fun h => e1 h.1)
  clear mA mB mC mR mL mD mU hF cWd
  go_enter Tryz.func13, Tryz.ntmps13
  go_wp2_with (first
   | (go_at_call 18; rw [← hW0]; refine cR.mono ?_; rintro e w1 ⟨rfl, hb⟩; replace HB := Below.tr HB hb; replace bD := bD.below hb; replace bF := bF.below hb; clear hb d0 d1; have d0 := bD.1 0 _ rfl; have d1 := bD.1 1 _ rfl; obtain ⟨⟨q0, q1, q2, q3, q4, q5, q6, q7, q8, q9, q10⟩, f0, f1, f2, f3, f4, f5, f6, f7, f8, f9, f10⟩ := bF.cells11)
   | (go_at_call 38; refine (cC _ HB).mono ?_; rintro e w4 ⟨rfl, hb⟩; have H4 : Hid (w.heap.size + 1 < w4.heap.size) := (bF.below hb).lt (by simp); have hC := (Below.refl w4.heap.size w4).alloc (Nat.le_refl _) (.cells #[.int .i64 G, .int .i64 R, .int .i64 M, .int .i64 Z] 35); replace HB := Below.tr (Below.tr HB hb) hC; replace bF := (bF.below hb).below hC; replace bD := (bD.below hb).below hC; have bS := boxL_new w4 [.int .i64 G, .int .i64 R, .int .i64 M, .int .i64 Z] 35 rfl; clear hb hC d0 d1; clear q0 q1 q2 q3 q4 q5 q6 q7 q8 q9 q10 f0 f1 f2 f3 f4 f5 f6 f7 f8 f9 f10; obtain ⟨⟨q0, q1, q2, q3, q4, q5, q6, q7, q8, q9, q10⟩, f0, f1, f2, f3, f4, f5, f6, f7, f8, f9, f10⟩ := bF.cells11; have s0 := bS.1 0 _ rfl; have s1 := bS.1 1 _ rfl; have s2 := bS.1 2 _ rfl; have s3 := bS.1 3 _ rfl; have d0 := bD.1 0 _ rfl; have d1 := bD.1 1 _ rfl)
   | (go_at_call 39; refine (cW _ HB).mono ?_; rintro e w6 ⟨_, _, _, _, _, rfl, hV, ⟨x0, n0, d0x, x1, n1, d1x, x2, n2, d2x, r4, g4, rfl, rfl, rfl, rfl, rfl⟩, hb⟩; have hC := (Below.refl w6.heap.size w6).alloc (Nat.le_refl _) (.cells #[Value.slice x0 n0 d0x, .slice x1 n1 d1x, .slice x2 n2 d2x, .int .i64 r4, .int .i64 g4] 40); replace HB := Below.tr (Below.tr HB hb) hC; replace bF := (bF.below hb).below hC; replace bD := (bD.below hb).below hC; replace bS := (bS.below hb).below hC; have bW := boxL_new w6 [Value.slice x0 n0 d0x, .slice x1 n1 d1x, .slice x2 n2 d2x, .int .i64 r4, .int .i64 g4] 40 rfl; clear hb hC hV s0 s1 s2 s3 d0 d1; clear q0 q1 q2 q3 q4 q5 q6 q7 q8 q9 q10 f0 f1 f2 f3 f4 f5 f6 f7 f8 f9 f10; obtain ⟨⟨q0, q1, q2, q3, q4, q5, q6, q7, q8, q9, q10⟩, f0, f1, f2, f3, f4, f5, f6, f7, f8, f9, f10⟩ := bF.cells11))
  refine bodyPost_ret (v := .tuple #[noFound, .int .i64 120]) (by simp [results, Tryz.results13, go_sem, noFound, q0, q1, q2, q3, q4, q5, q6, q7, q8, q9, q10]) rfl ?_
  rw [HE.out]
  exact ⟨_, rfl, fZ.out _ _ (by decide), Below.setL (Nat.le_succ _) [.int .i64 0, .int .i64 0, .int .i64 0, .int .i64 0, .int .i64 0, .slice none 0 0, .slice none 0 0, .slice none 0 0, .int .i64 0, .int .i64 0, .slice none 0 0] 0 _ HB⟩
 case pos =>
 subst e1
 by_cases e2 : Z = n
 case neg =>
  have HE : Hid (E = 120) := mA.out (fun h => e2 h.2.1)
  clear mA mB mC mR mL mD mU hF cWd
  go_enter Tryz.func13, Tryz.ntmps13
  go_wp2_with (first
   | (go_at_call 18; rw [← hW0]; refine cR.mono ?_; rintro e w1 ⟨rfl, hb⟩; replace HB := Below.tr HB hb; replace bD := bD.below hb; replace bF := bF.below hb; clear hb d0 d1; have d0 := bD.1 0 _ rfl; have d1 := bD.1 1 _ rfl; obtain ⟨⟨q0, q1, q2, q3, q4, q5, q6, q7, q8, q9, q10⟩, f0, f1, f2, f3, f4, f5, f6, f7, f8, f9, f10⟩ := bF.cells11)
   | (go_at_call 38; refine (cC _ HB).mono ?_; rintro e w4 ⟨rfl, hb⟩; have H4 : Hid (w.heap.size + 1 < w4.heap.size) := (bF.below hb).lt (by simp); have hC := (Below.refl w4.heap.size w4).alloc (Nat.le_refl _) (.cells #[.int .i64 G, .int .i64 R, .int .i64 M, .int .i64 Z] 35); replace HB := Below.tr (Below.tr HB hb) hC; replace bF := (bF.below hb).below hC; replace bD := (bD.below hb).below hC; have bS := boxL_new w4 [.int .i64 G, .int .i64 R, .int .i64 M, .int .i64 Z] 35 rfl; clear hb hC d0 d1; clear q0 q1 q2 q3 q4 q5 q6 q7 q8 q9 q10 f0 f1 f2 f3 f4 f5 f6 f7 f8 f9 f10; obtain ⟨⟨q0, q1, q2, q3, q4, q5, q6, q7, q8, q9, q10⟩, f0, f1, f2, f3, f4, f5, f6, f7, f8, f9, f10⟩ := bF.cells11; have s0 := bS.1 0 _ rfl; have s1 := bS.1 1 _ rfl; have s2 := bS.1 2 _ rfl; have s3 := bS.1 3 _ rfl; have d0 := bD.1 0 _ rfl; have d1 := bD.1 1 _ rfl)
   | (go_at_call 39; refine (cW _ HB).mono ?_; rintro e w6 ⟨_, _, _, _, _, rfl, hV, ⟨x0, n0, d0x, x1, n1, d1x, x2, n2, d2x, r4, g4, rfl, rfl, rfl, rfl, rfl⟩, hb⟩; have hC := (Below.refl w6.heap.size w6).alloc (Nat.le_refl _) (.cells #[Value.slice x0 n0 d0x, .slice x1 n1 d1x, .slice x2 n2 d2x, .int .i64 r4, .int .i64 g4] 40); replace HB := Below.tr (Below.tr HB hb) hC; replace bF := (bF.below hb).below hC; replace bD := (bD.below hb).below hC; replace bS := (bS.below hb).below hC; have bW := boxL_new w6 [Value.slice x0 n0 d0x, .slice x1 n1 d1x, .slice x2 n2 d2x, .int .i64 r4, .int .i64 g4] 40 rfl; clear hb hC hV s0 s1 s2 s3 d0 d1; clear q0 q1 q2 q3 q4 q5 q6 q7 q8 q9 q10 f0 f1 f2 f3 f4 f5 f6 f7 f8 f9 f10; obtain ⟨⟨q0, q1, q2, q3, q4, q5, q6, q7, q8, q9, q10⟩, f0, f1, f2, f3, f4, f5, f6, f7, f8, f9, f10⟩ := bF.cells11))
  refine bodyPost_ret (v := .tuple #[noFound, .int .i64 120]) (by simp [results, Tryz.results13, go_sem, noFound, q0, q1, q2, q3, q4, q5, q6, q7, q8, q9, q10]) rfl ?_
  rw [HE.out]
  exact ⟨_, rfl, fZ.out _ _ (by decide), Below.setL (Nat.le_succ _) [.int .i64 0, .int .i64 0, .int .i64 0, .int .i64 0, .int .i64 0, .slice none 0 0, .slice none 0 0, .slice none 0 0, .int .i64 0, .int .i64 0, .slice none 0 0] 0 _ HB⟩
 case pos =>
 subst e2
 obtain ⟨⟨g1, g2⟩, _, m1, m2⟩ := mR.out rfl
 by_cases e3 : G = 1099511627776
 case pos =>
  have HE : Hid (E = 120) := mA.out (fun h => h.2.2 e3)
  subst e3
  clear mA mB mC mR mL mD mU hF cWd
  go_enter Tryz.func13, Tryz.ntmps13
  go_wp2_with (first
   | (go_at_call 18; rw [← hW0]; refine cR.mono ?_; rintro e w1 ⟨rfl, hb⟩; replace HB := Below.tr HB hb; replace bD := bD.below hb; replace bF := bF.below hb; clear hb d0 d1; have d0 := bD.1 0 _ rfl; have d1 := bD.1 1 _ rfl; obtain ⟨⟨q0, q1, q2, q3, q4, q5, q6, q7, q8, q9, q10⟩, f0, f1, f2, f3, f4, f5, f6, f7, f8, f9, f10⟩ := bF.cells11)
   | (go_at_call 38; refine (cC _ HB).mono ?_; rintro e w4 ⟨rfl, hb⟩; have H4 : Hid (w.heap.size + 1 < w4.heap.size) := (bF.below hb).lt (by simp); have hC := (Below.refl w4.heap.size w4).alloc (Nat.le_refl _) (.cells #[.int .i64 1099511627776, .int .i64 R, .int .i64 M, .int .i64 ↑n] 35); replace HB := Below.tr (Below.tr HB hb) hC; replace bF := (bF.below hb).below hC; replace bD := (bD.below hb).below hC; have bS := boxL_new w4 [.int .i64 1099511627776, .int .i64 R, .int .i64 M, .int .i64 ↑n] 35 rfl; clear hb hC d0 d1; clear q0 q1 q2 q3 q4 q5 q6 q7 q8 q9 q10 f0 f1 f2 f3 f4 f5 f6 f7 f8 f9 f10; obtain ⟨⟨q0, q1, q2, q3, q4, q5, q6, q7, q8, q9, q10⟩, f0, f1, f2, f3, f4, f5, f6, f7, f8, f9, f10⟩ := bF.cells11; have s0 := bS.1 0 _ rfl; have s1 := bS.1 1 _ rfl; have s2 := bS.1 2 _ rfl; have s3 := bS.1 3 _ rfl; have d0 := bD.1 0 _ rfl; have d1 := bD.1 1 _ rfl)
   | (go_at_call 39; refine (cW _ HB).mono ?_; rintro e w6 ⟨_, _, _, _, _, rfl, hV, ⟨x0, n0, d0x, x1, n1, d1x, x2, n2, d2x, r4, g4, rfl, rfl, rfl, rfl, rfl⟩, hb⟩; have hC := (Below.refl w6.heap.size w6).alloc (Nat.le_refl _) (.cells #[Value.slice x0 n0 d0x, .slice x1 n1 d1x, .slice x2 n2 d2x, .int .i64 r4, .int .i64 g4] 40); replace HB := Below.tr (Below.tr HB hb) hC; replace bF := (bF.below hb).below hC; replace bD := (bD.below hb).below hC; replace bS := (bS.below hb).below hC; have bW := boxL_new w6 [Value.slice x0 n0 d0x, .slice x1 n1 d1x, .slice x2 n2 d2x, .int .i64 r4, .int .i64 g4] 40 rfl; clear hb hC hV s0 s1 s2 s3 d0 d1; clear q0 q1 q2 q3 q4 q5 q6 q7 q8 q9 q10 f0 f1 f2 f3 f4 f5 f6 f7 f8 f9 f10; obtain ⟨⟨q0, q1, q2, q3, q4, q5, q6, q7, q8, q9, q10⟩, f0, f1, f2, f3, f4, f5, f6, f7, f8, f9, f10⟩ := bF.cells11))
  refine bodyPost_ret (v := .tuple #[noFound, .int .i64 120]) (by simp [results, Tryz.results13, go_sem, noFound, q0, q1, q2, q3, q4, q5, q6, q7, q8, q9, q10]) rfl ?_
  rw [HE.out]
  exact ⟨_, rfl, fZ.out _ _ (by decide), Below.setL (Nat.le_succ _) [.int .i64 0, .int .i64 0, .int .i64 0, .int .i64 0, .int .i64 0, .slice none 0 0, .slice none 0 0, .slice none 0 0, .int .i64 0, .int .i64 0, .slice none 0 0] 0 _ HB⟩
 case neg =>
 have e3' : ¬ (1099511627776 : Int) ≤ G := by omega
 obtain ⟨mm, rfl⟩ : ∃ mm : Nat, M = mm := ⟨M.toNat, by omega⟩
 have hmn : mm < n := by omega
 have cW := fun V hV => cWd V G R n mm n hmn rfl (Nat.le_refl _) l2' (by omega) g2 hV
 obtain ⟨OK, hOK⟩ : ∃ k, k = wdB (blk bs mm) bs G R n mm := ⟨_, rfl⟩
 have eU := mU.out mm rfl
 have eD := mD.out mm rfl
 rw [← hOK] at cW eD
 rw [← eU] at cW
 have HD : Hid (OK = true ↔ D = 0) := eD
 replace mL : Hid (D = 0 → U.length = n) := mL.out mm rfl rfl
 clear cWd mU mD mR mA hOK eU eD
 by_cases e5 : D = 0
 case neg =>
  have HE : Hid (E = 120) := mB.out e5
  obtain rfl : OK = false := by
   cases OK with
   | false => rfl
   | true => exact absurd (HD.out.1 rfl) e5
  clear mB mC mL hF HD
  go_enter Tryz.func13, Tryz.ntmps13
  go_wp2_with (first
   | (go_at_call 18; rw [← hW0]; refine cR.mono ?_; rintro e w1 ⟨rfl, hb⟩; replace HB := Below.tr HB hb; replace bD := bD.below hb; replace bF := bF.below hb; clear hb d0 d1; have d0 := bD.1 0 _ rfl; have d1 := bD.1 1 _ rfl; obtain ⟨⟨q0, q1, q2, q3, q4, q5, q6, q7, q8, q9, q10⟩, f0, f1, f2, f3, f4, f5, f6, f7, f8, f9, f10⟩ := bF.cells11)
   | (go_at_call 38; refine (cC _ HB).mono ?_; rintro e w4 ⟨rfl, hb⟩; have H4 : Hid (w.heap.size + 1 < w4.heap.size) := (bF.below hb).lt (by simp); have hC := (Below.refl w4.heap.size w4).alloc (Nat.le_refl _) (.cells #[.int .i64 G, .int .i64 R, .int .i64 ↑mm, .int .i64 ↑n] 35); replace HB := Below.tr (Below.tr HB hb) hC; replace bF := (bF.below hb).below hC; replace bD := (bD.below hb).below hC; have bS := boxL_new w4 [.int .i64 G, .int .i64 R, .int .i64 ↑mm, .int .i64 ↑n] 35 rfl; clear hb hC d0 d1; clear q0 q1 q2 q3 q4 q5 q6 q7 q8 q9 q10 f0 f1 f2 f3 f4 f5 f6 f7 f8 f9 f10; obtain ⟨⟨q0, q1, q2, q3, q4, q5, q6, q7, q8, q9, q10⟩, f0, f1, f2, f3, f4, f5, f6, f7, f8, f9, f10⟩ := bF.cells11; have s0 := bS.1 0 _ rfl; have s1 := bS.1 1 _ rfl; have s2 := bS.1 2 _ rfl; have s3 := bS.1 3 _ rfl; have d0 := bD.1 0 _ rfl; have d1 := bD.1 1 _ rfl)
   | (go_at_call 39; refine (cW _ HB).mono ?_; rintro e w6 ⟨_, _, _, _, _, rfl, hV, ⟨x0, n0, d0x, x1, n1, d1x, x2, n2, d2x, r4, g4, rfl, rfl, rfl, rfl, rfl⟩, hb⟩; have hC := (Below.refl w6.heap.size w6).alloc (Nat.le_refl _) (.cells #[Value.slice x0 n0 d0x, .slice x1 n1 d1x, .slice x2 n2 d2x, .int .i64 r4, .int .i64 g4] 40); replace HB := Below.tr (Below.tr HB hb) hC; replace bF := (bF.below hb).below hC; replace bD := (bD.below hb).below hC; replace bS := (bS.below hb).below hC; have bW := boxL_new w6 [Value.slice x0 n0 d0x, .slice x1 n1 d1x, .slice x2 n2 d2x, .int .i64 r4, .int .i64 g4] 40 rfl; clear hb hC hV s0 s1 s2 s3 d0 d1; clear q0 q1 q2 q3 q4 q5 q6 q7 q8 q9 q10 f0 f1 f2 f3 f4 f5 f6 f7 f8 f9 f10; obtain ⟨⟨q0, q1, q2, q3, q4, q5, q6, q7, q8, q9, q10⟩, f0, f1, f2, f3, f4, f5, f6, f7, f8, f9, f10⟩ := bF.cells11))
  refine bodyPost_ret (v := .tuple #[noFound, .int .i64 120]) (by simp [results, Tryz.results13, go_sem, noFound, q0, q1, q2, q3, q4, q5, q6, q7, q8, q9, q10]) rfl ?_
  rw [HE.out]
  exact ⟨_, rfl, fZ.out _ _ (by decide), Below.setL (Nat.le_succ _) [.int .i64 0, .int .i64 0, .int .i64 0, .int .i64 0, .int .i64 0, .slice none 0 0, .slice none 0 0, .slice none 0 0, .int .i64 0, .int .i64 0, .slice none 0 0] 0 _ HB⟩
 case pos =>
  have HE : Hid (E = 0) := mC.out rfl rfl e3 e5
  obtain rfl : OK = true := HD.out.2 e5
  have hUl : Hid (U.length = n) := mL.out e5
  have cW2 : ∀ V, Below w.heap.size w V → Calls Tryz.prog 39 #[.agg #[.slice (some ⟨b, o, none⟩) n c, .slice a' 0 c'], .agg #[.int .i64 G, .int .i64 R, .int .i64 mm, .int .i64 n]] V fun e w' => ∃ ua uc a3 c3, e = .returned (.tuple #[.agg #[.slice ua n uc, .slice ua n uc, .slice a3 n c3, .int .i64 R, .int .i64 (G + 1)], .bool true]) ∧ IsB w' ua uc U ∧ IsS w' a3 c3 (pgL bs U) ∧ Below V.heap.size V w' :=
   fun V hV => (cW V hV).mono fun e w' ⟨v0, v1, v2, v3, v4, he, hh, _, hb⟩ => by
    obtain ⟨ua, uc, a3, c3, rfl, rfl, rfl, rfl, rfl, h1, h2⟩ := hh rfl
    exact ⟨ua, uc, a3, c3, he, h1, h2, hb⟩
  replace hF : Hid (∀ (w' : World) (a1 a2 a3 a4 : Option Addr) (c1 c2 c3 c4 : Nat), IsB w' a1 c1 U → IsB w' a2 c2 U → IsS w' a3 c3 (pgL bs U) → IsS w' a4 c4 SR → FoundA E bs t i w' (.agg #[.int .i64 G, .int .i64 R, .int .i64 mm, .int .i64 n, .int .i64 i, .slice a1 n c1, .slice a2 n c2, .slice a3 n c3, .int .i64 R, .int .i64 (G + 1), .slice a4 l c4])) :=
   fun w' a1 a2 a3 a4 c1 c2 c3 c4 h1 h2 h3 h4 => hF.out w' a1 a2 a3 a4 c1 c2 c3 c4 n l HE.out hUl.out.symm rfl h1 h2 h3 h4
  obtain ⟨P, hPP⟩ : ∃ P, P = pgL bs U := ⟨_, rfl⟩
  rw [← hPP] at cW2 hF
  clear mB mC mL HD cW e5 hUl hPP HS HN hRt fZ
  go_enter Tryz.func13, Tryz.ntmps13
  go_wp2_with (first
   | (go_at_call 18; rw [← hW0]; refine cR.mono ?_; rintro e w1 ⟨rfl, hb⟩; replace HB := Below.tr HB hb; replace bD := bD.below hb; replace bF := bF.below hb; clear hb d0 d1; have d0 := bD.1 0 _ rfl; have d1 := bD.1 1 _ rfl; obtain ⟨⟨q0, q1, q2, q3, q4, q5, q6, q7, q8, q9, q10⟩, f0, f1, f2, f3, f4, f5, f6, f7, f8, f9, f10⟩ := bF.cells11)
   | (go_at_call 38; refine (cC _ HB).mono ?_; rintro e w4 ⟨rfl, hb⟩; have H4 : Hid (w.heap.size + 1 < w4.heap.size) := (bF.below hb).lt (by simp); have hC := (Below.refl w4.heap.size w4).alloc (Nat.le_refl _) (.cells #[.int .i64 G, .int .i64 R, .int .i64 ↑mm, .int .i64 ↑n] 35); replace HB := Below.tr (Below.tr HB hb) hC; replace bF := (bF.below hb).below hC; replace bD := (bD.below hb).below hC; have bS := boxL_new w4 [.int .i64 G, .int .i64 R, .int .i64 ↑mm, .int .i64 ↑n] 35 rfl; clear hb hC d0 d1; clear q0 q1 q2 q3 q4 q5 q6 q7 q8 q9 q10 f0 f1 f2 f3 f4 f5 f6 f7 f8 f9 f10; obtain ⟨⟨q0, q1, q2, q3, q4, q5, q6, q7, q8, q9, q10⟩, f0, f1, f2, f3, f4, f5, f6, f7, f8, f9, f10⟩ := bF.cells11; have s0 := bS.1 0 _ rfl; have s1 := bS.1 1 _ rfl; have s2 := bS.1 2 _ rfl; have s3 := bS.1 3 _ rfl; have d0 := bD.1 0 _ rfl; have d1 := bD.1 1 _ rfl)
   | (go_at_call 39; refine (cW2 _ HB).mono ?_; rintro e w6 ⟨ua, uc, a3, c3, rfl, i1, i3, hb⟩; have H6 : Hid (w.heap.size + 1 < w6.heap.size) := (bF.below hb).lt (by simp); have hC := (Below.refl w6.heap.size w6).alloc (Nat.le_refl _) (.cells #[.slice ua n uc, .slice ua n uc, .slice a3 n c3, .int .i64 R, .int .i64 (G + 1)] 40); replace HB := Below.tr (Below.tr HB hb) hC; replace bF := (bF.below hb).below hC; replace bD := (bD.below hb).below hC; replace bS := (bS.below hb).below hC; have bW := boxL_new w6 [.slice ua n uc, .slice ua n uc, .slice a3 n c3, .int .i64 R, .int .i64 (G + 1)] 40 rfl; have I1 : Hid (IsB _ ua uc U) := i1.below hC; have I3 : Hid (IsS _ a3 c3 P) := i3.below hC; clear hb hC i1 i3 s0 s1 s2 s3 d0 d1 q0 q1 q2 q3 q4 q5 q6 q7 q8 q9 q10 f0 f1 f2 f3 f4 f5 f6 f7 f8 f9 f10))
  obtain ⟨X6, hX6⟩ : ∃ X, X = w6.alloc (.cells #[.slice ua n uc, .slice ua n uc, .slice a3 n c3, .int .i64 R, .int .i64 (G + 1)] 40) := ⟨_, rfl⟩
  rw [← hX6]
  rw [show w6.alloc (.cells [Value.slice ua n uc, .slice ua n uc, .slice a3 n c3, .int .i64 R, .int .i64 (G + 1)].toArray 40) = X6 from hX6.symm] at bW
  rw [← hX6] at HB bF bD bS I1 I3
  have hD0 : Below X6.heap.size X6 X6.drew := (Below.refl _ _).drew
  replace HB := Below.tr HB hD0
  replace bF := bF.below hD0
  replace bD := bD.below hD0
  replace bS := bS.below hD0
  replace bW := bW.below hD0
  replace I1 : Hid (IsB X6.drew ua uc U) := I1.out.below hD0
  replace I3 : Hid (IsS X6.drew a3 c3 P) := I3.out.below hD0
  clear hD0 hX6
  have SS : ∀ V, BoxL V w4.heap.size [.int .i64 G, .int .i64 R, .int .i64 mm, .int .i64 n] → BoxL V w6.heap.size [.slice ua n uc, .slice ua n uc, .slice a3 n c3, .int .i64 R, .int .i64 (G + 1)] → BoxL V w.heap.size [.slice (some ⟨b, o, none⟩) n c, .slice a' 0 c'] → (V.cell? ⟨w4.heap.size, 0, none⟩ = some (.int .i64 G) ∧ V.cell? ⟨w4.heap.size, 1, none⟩ = some (.int .i64 R) ∧ V.cell? ⟨w4.heap.size, 2, none⟩ = some (.int .i64 mm) ∧ V.cell? ⟨w4.heap.size, 3, none⟩ = some (.int .i64 n)) ∧ (V.cell? ⟨w6.heap.size, 0, none⟩ = some (.slice ua n uc) ∧ V.cell? ⟨w6.heap.size, 1, none⟩ = some (.slice ua n uc) ∧ V.cell? ⟨w6.heap.size, 2, none⟩ = some (.slice a3 n c3) ∧ V.cell? ⟨w6.heap.size, 3, none⟩ = some (.int .i64 R) ∧ V.cell? ⟨w6.heap.size, 4, none⟩ = some (.int .i64 (G + 1))) ∧ V.cell? ⟨w.heap.size, 0, none⟩ = some (.slice (some ⟨b, o, none⟩) n c) :=
   fun V b1 b2 b3 => ⟨⟨b1.1 0 _ rfl, b1.1 1 _ rfl, b1.1 2 _ rfl, b1.1 3 _ rfl⟩, ⟨b2.1 0 _ rfl, b2.1 1 _ rfl, b2.1 2 _ rfl, b2.1 3 _ rfl, b2.1 4 _ rfl⟩, b3.1 0 _ rfl⟩
  have HSS : Hid _ := SS
  clear SS
  have HST : Hid (∀ (a4 : Option Addr) (c4 : Nat) (V : World), BoxL V w4.heap.size [.int .i64 G, .int .i64 R, .int .i64 mm, .int .i64 n] → BoxL V w6.heap.size [.slice ua n uc, .slice ua n uc, .slice a3 n c3, .int .i64 R, .int .i64 (G + 1)] → BoxL V w.heap.size [.slice (some ⟨b, o, none⟩) n c, .slice a' 0 c'] → (((((((((((((V).setCell ⟨w.heap.size + 1, 0, none⟩ (.int .i64 G)).setCell ⟨w.heap.size + 1, 1, none⟩ (.int .i64 R)).setCell ⟨w.heap.size + 1, 2, none⟩ (.int .i64 mm)).setCell ⟨w.heap.size + 1, 3, none⟩ (.int .i64 n)).setCell ⟨w.heap.size + 1, 4, none⟩ (.int .i64 i)).setCell ⟨w.heap.size + 1, 5, none⟩ (.slice ua n uc)).setCell ⟨w.heap.size + 1, 6, none⟩ (.slice ua n uc)).setCell ⟨w.heap.size + 1, 7, none⟩ (.slice a3 n c3)).setCell ⟨w.heap.size + 1, 8, none⟩ (.int .i64 R)).setCell ⟨w.heap.size + 1, 9, none⟩ (.int .i64 (G + 1))).setCell ⟨w.heap.size + 1, 10, none⟩ (.slice a4 l c4)).cell? ⟨w4.heap.size, 0, none⟩ = some (.int .i64 G) ∧ ((((((((((((V).setCell ⟨w.heap.size + 1, 0, none⟩ (.int .i64 G)).setCell ⟨w.heap.size + 1, 1, none⟩ (.int .i64 R)).setCell ⟨w.heap.size + 1, 2, none⟩ (.int .i64 mm)).setCell ⟨w.heap.size + 1, 3, none⟩ (.int .i64 n)).setCell ⟨w.heap.size + 1, 4, none⟩ (.int .i64 i)).setCell ⟨w.heap.size + 1, 5, none⟩ (.slice ua n uc)).setCell ⟨w.heap.size + 1, 6, none⟩ (.slice ua n uc)).setCell ⟨w.heap.size + 1, 7, none⟩ (.slice a3 n c3)).setCell ⟨w.heap.size + 1, 8, none⟩ (.int .i64 R)).setCell ⟨w.heap.size + 1, 9, none⟩ (.int .i64 (G + 1))).setCell ⟨w.heap.size + 1, 10, none⟩ (.slice a4 l c4)).cell? ⟨w4.heap.size, 1, none⟩ = some (.int .i64 R) ∧ ((((((((((((V).setCell ⟨w.heap.size + 1, 0, none⟩ (.int .i64 G)).setCell ⟨w.heap.size + 1, 1, none⟩ (.int .i64 R)).setCell ⟨w.heap.size + 1, 2, none⟩ (.int .i64 mm)).setCell ⟨w.heap.size + 1, 3, none⟩ (.int .i64 n)).setCell ⟨w.heap.size + 1, 4, none⟩ (.int .i64 i)).setCell ⟨w.heap.size + 1, 5, none⟩ (.slice ua n uc)).setCell ⟨w.heap.size + 1, 6, none⟩ (.slice ua n uc)).setCell ⟨w.heap.size + 1, 7, none⟩ (.slice a3 n c3)).setCell ⟨w.heap.size + 1, 8, none⟩ (.int .i64 R)).setCell ⟨w.heap.size + 1, 9, none⟩ (.int .i64 (G + 1))).setCell ⟨w.heap.size + 1, 10, none⟩ (.slice a4 l c4)).cell? ⟨w4.heap.size, 2, none⟩ = some (.int .i64 mm) ∧ ((((((((((((V).setCell ⟨w.heap.size + 1, 0, none⟩ (.int .i64 G)).setCell ⟨w.heap.size + 1, 1, none⟩ (.int .i64 R)).setCell ⟨w.heap.size + 1, 2, none⟩ (.int .i64 mm)).setCell ⟨w.heap.size + 1, 3, none⟩ (.int .i64 n)).setCell ⟨w.heap.size + 1, 4, none⟩ (.int .i64 i)).setCell ⟨w.heap.size + 1, 5, none⟩ (.slice ua n uc)).setCell ⟨w.heap.size + 1, 6, none⟩ (.slice ua n uc)).setCell ⟨w.heap.size + 1, 7, none⟩ (.slice a3 n c3)).setCell ⟨w.heap.size + 1, 8, none⟩ (.int .i64 R)).setCell ⟨w.heap.size + 1, 9, none⟩ (.int .i64 (G + 1))).setCell ⟨w.heap.size + 1, 10, none⟩ (.slice a4 l c4)).cell? ⟨w4.heap.size, 3, none⟩ = some (.int .i64 n)) ∧ (((((((((((((V).setCell ⟨w.heap.size + 1, 0, none⟩ (.int .i64 G)).setCell ⟨w.heap.size + 1, 1, none⟩ (.int .i64 R)).setCell ⟨w.heap.size + 1, 2, none⟩ (.int .i64 mm)).setCell ⟨w.heap.size + 1, 3, none⟩ (.int .i64 n)).setCell ⟨w.heap.size + 1, 4, none⟩ (.int .i64 i)).setCell ⟨w.heap.size + 1, 5, none⟩ (.slice ua n uc)).setCell ⟨w.heap.size + 1, 6, none⟩ (.slice ua n uc)).setCell ⟨w.heap.size + 1, 7, none⟩ (.slice a3 n c3)).setCell ⟨w.heap.size + 1, 8, none⟩ (.int .i64 R)).setCell ⟨w.heap.size + 1, 9, none⟩ (.int .i64 (G + 1))).setCell ⟨w.heap.size + 1, 10, none⟩ (.slice a4 l c4)).cell? ⟨w6.heap.size, 0, none⟩ = some (.slice ua n uc) ∧ ((((((((((((V).setCell ⟨w.heap.size + 1, 0, none⟩ (.int .i64 G)).setCell ⟨w.heap.size + 1, 1, none⟩ (.int .i64 R)).setCell ⟨w.heap.size + 1, 2, none⟩ (.int .i64 mm)).setCell ⟨w.heap.size + 1, 3, none⟩ (.int .i64 n)).setCell ⟨w.heap.size + 1, 4, none⟩ (.int .i64 i)).setCell ⟨w.heap.size + 1, 5, none⟩ (.slice ua n uc)).setCell ⟨w.heap.size + 1, 6, none⟩ (.slice ua n uc)).setCell ⟨w.heap.size + 1, 7, none⟩ (.slice a3 n c3)).setCell ⟨w.heap.size + 1, 8, none⟩ (.int .i64 R)).setCell ⟨w.heap.size + 1, 9, none⟩ (.int .i64 (G + 1))).setCell ⟨w.heap.size + 1, 10, none⟩ (.slice a4 l c4)).cell? ⟨w6.heap.size, 1, none⟩ = some (.slice ua n uc) ∧ ((((((((((((V).setCell ⟨w.heap.size + 1, 0, none⟩ (.int .i64 G)).setCell ⟨w.heap.size + 1, 1, none⟩ (.int .i64 R)).setCell ⟨w.heap.size + 1, 2, none⟩ (.int .i64 mm)).setCell ⟨w.heap.size + 1, 3, none⟩ (.int .i64 n)).setCell ⟨w.heap.size + 1, 4, none⟩ (.int .i64 i)).setCell ⟨w.heap.size + 1, 5, none⟩ (.slice ua n uc)).setCell ⟨w.heap.size + 1, 6, none⟩ (.slice ua n uc)).setCell ⟨w.heap.size + 1, 7, none⟩ (.slice a3 n c3)).setCell ⟨w.heap.size + 1, 8, none⟩ (.int .i64 R)).setCell ⟨w.heap.size + 1, 9, none⟩ (.int .i64 (G + 1))).setCell ⟨w.heap.size + 1, 10, none⟩ (.slice a4 l c4)).cell? ⟨w6.heap.size, 2, none⟩ = some (.slice a3 n c3) ∧ ((((((((((((V).setCell ⟨w.heap.size + 1, 0, none⟩ (.int .i64 G)).setCell ⟨w.heap.size + 1, 1, none⟩ (.int .i64 R)).setCell ⟨w.heap.size + 1, 2, none⟩ (.int .i64 mm)).setCell ⟨w.heap.size + 1, 3, none⟩ (.int .i64 n)).setCell ⟨w.heap.size + 1, 4, none⟩ (.int .i64 i)).setCell ⟨w.heap.size + 1, 5, none⟩ (.slice ua n uc)).setCell ⟨w.heap.size + 1, 6, none⟩ (.slice ua n uc)).setCell ⟨w.heap.size + 1, 7, none⟩ (.slice a3 n c3)).setCell ⟨w.heap.size + 1, 8, none⟩ (.int .i64 R)).setCell ⟨w.heap.size + 1, 9, none⟩ (.int .i64 (G + 1))).setCell ⟨w.heap.size + 1, 10, none⟩ (.slice a4 l c4)).cell? ⟨w6.heap.size, 3, none⟩ = some (.int .i64 R) ∧ ((((((((((((V).setCell ⟨w.heap.size + 1, 0, none⟩ (.int .i64 G)).setCell ⟨w.heap.size + 1, 1, none⟩ (.int .i64 R)).setCell ⟨w.heap.size + 1, 2, none⟩ (.int .i64 mm)).setCell ⟨w.heap.size + 1, 3, none⟩ (.int .i64 n)).setCell ⟨w.heap.size + 1, 4, none⟩ (.int .i64 i)).setCell ⟨w.heap.size + 1, 5, none⟩ (.slice ua n uc)).setCell ⟨w.heap.size + 1, 6, none⟩ (.slice ua n uc)).setCell ⟨w.heap.size + 1, 7, none⟩ (.slice a3 n c3)).setCell ⟨w.heap.size + 1, 8, none⟩ (.int .i64 R)).setCell ⟨w.heap.size + 1, 9, none⟩ (.int .i64 (G + 1))).setCell ⟨w.heap.size + 1, 10, none⟩ (.slice a4 l c4)).cell? ⟨w6.heap.size, 4, none⟩ = some (.int .i64 (G + 1))) ∧ ((((((((((((V).setCell ⟨w.heap.size + 1, 0, none⟩ (.int .i64 G)).setCell ⟨w.heap.size + 1, 1, none⟩ (.int .i64 R)).setCell ⟨w.heap.size + 1, 2, none⟩ (.int .i64 mm)).setCell ⟨w.heap.size + 1, 3, none⟩ (.int .i64 n)).setCell ⟨w.heap.size + 1, 4, none⟩ (.int .i64 i)).setCell ⟨w.heap.size + 1, 5, none⟩ (.slice ua n uc)).setCell ⟨w.heap.size + 1, 6, none⟩ (.slice ua n uc)).setCell ⟨w.heap.size + 1, 7, none⟩ (.slice a3 n c3)).setCell ⟨w.heap.size + 1, 8, none⟩ (.int .i64 R)).setCell ⟨w.heap.size + 1, 9, none⟩ (.int .i64 (G + 1))).setCell ⟨w.heap.size + 1, 10, none⟩ (.slice a4 l c4)).cell? ⟨w.heap.size, 0, none⟩ = some (.slice (some ⟨b, o, none⟩) n c)) :=
   fun a4 c4 V b1 b2 b3 => HSS.out (setL V (w.heap.size + 1) 0 [.int .i64 G, .int .i64 R, .int .i64 mm, .int .i64 n, .int .i64 i, .slice ua n uc, .slice ua n uc, .slice a3 n c3, .int .i64 R, .int .i64 (G + 1), .slice a4 l c4]) (BoxL.offAll (Nat.ne_of_gt H4.out) _ 0 _ b1) (BoxL.offAll (Nat.ne_of_gt H6.out) _ 0 _ b2) (BoxL.offAll (Nat.ne_of_lt (Nat.lt_succ_self _)) _ 0 _ b3)
  go_region_held3 (fun V => (V.cell? ⟨w4.heap.size, 0, none⟩ = some (.int .i64 G) ∧ V.cell? ⟨w4.heap.size, 1, none⟩ = some (.int .i64 R) ∧ V.cell? ⟨w4.heap.size, 2, none⟩ = some (.int .i64 mm) ∧ V.cell? ⟨w4.heap.size, 3, none⟩ = some (.int .i64 n)) ∧ (V.cell? ⟨w6.heap.size, 0, none⟩ = some (.slice ua n uc) ∧ V.cell? ⟨w6.heap.size, 1, none⟩ = some (.slice ua n uc) ∧ V.cell? ⟨w6.heap.size, 2, none⟩ = some (.slice a3 n c3) ∧ V.cell? ⟨w6.heap.size, 3, none⟩ = some (.int .i64 R) ∧ V.cell? ⟨w6.heap.size, 4, none⟩ = some (.int .i64 (G + 1))) ∧ V.cell? ⟨w.heap.size, 0, none⟩ = some (.slice (some ⟨b, o, none⟩) n c))
   (first
    | with_reducible exact HSS.out _ bS bW bD
    | with_reducible exact HST.out _ _ _ bS bW bD)
   (first
    | (go_at_call 40; refine (cS _ HB).mono ?_; rintro e w8 ⟨a4, c4, rfl, i4, hb⟩; replace HB := Below.tr HB hb; replace bF := bF.below hb; replace bD := bD.below hb; replace bS := bS.below hb; replace bW := bW.below hb; replace I1 : Hid (IsB w8 ua uc U) := I1.out.below hb; replace I3 : Hid (IsS w8 a3 c3 P) := I3.out.below hb; have I4 : Hid (IsS w8 a4 c4 SR) := i4; clear hb i4; obtain ⟨⟨q0, q1, q2, q3, q4, q5, q6, q7, q8, q9, q10⟩, f0, f1, f2, f3, f4, f5, f6, f7, f8, f9, f10⟩ := bF.cells11))
  go_wp2
  refine bodyPost_ret (v := .tuple #[.agg #[.int .i64 G, .int .i64 R, .int .i64 mm, .int .i64 n, .int .i64 i, .slice ua n uc, .slice ua n uc, .slice a3 n c3, .int .i64 R, .int .i64 (G + 1), .slice a4 l c4], .int .i64 0]) (by simp [results, Tryz.results13, go_sem, q0, q1, q2, q3, q4, q5, q6, q7, q8, q9, q10]) rfl ?_
  rw [HE.out]
  rw [HE.out] at hF
  exact ⟨_, rfl, hF.out (setL w8 (w.heap.size + 1) 0 [.int .i64 G, .int .i64 R, .int .i64 mm, .int .i64 n, .int .i64 i, .slice ua n uc, .slice ua n uc, .slice a3 n c3, .int .i64 R, .int .i64 (G + 1), .slice a4 l c4]) _ _ _ _ _ _ _ _ (I1.out.offBox bF (fun i u h => (zeros11 i u h).1) [.int .i64 G, .int .i64 R, .int .i64 mm, .int .i64 n, .int .i64 i, .slice ua n uc, .slice ua n uc, .slice a3 n c3, .int .i64 R, .int .i64 (G + 1), .slice a4 l c4] rfl) (I1.out.offBox bF (fun i u h => (zeros11 i u h).1) [.int .i64 G, .int .i64 R, .int .i64 mm, .int .i64 n, .int .i64 i, .slice ua n uc, .slice ua n uc, .slice a3 n c3, .int .i64 R, .int .i64 (G + 1), .slice a4 l c4] rfl) (I3.out.offBox bF (fun i u h => (zeros11 i u h).2) [.int .i64 G, .int .i64 R, .int .i64 mm, .int .i64 n, .int .i64 i, .slice ua n uc, .slice ua n uc, .slice a3 n c3, .int .i64 R, .int .i64 (G + 1), .slice a4 l c4] rfl) (I4.out.offBox bF (fun i u h => (zeros11 i u h).2) [.int .i64 G, .int .i64 R, .int .i64 mm, .int .i64 n, .int .i64 i, .slice ua n uc, .slice ua n uc, .slice a3 n c3, .int .i64 R, .int .i64 (G + 1), .slice a4 l c4] rfl), Below.setL (Nat.le_succ _) [.int .i64 G, .int .i64 R, .int .i64 mm, .int .i64 n, .int .i64 i, .slice ua n uc, .slice ua n uc, .slice a3 n c3, .int .i64 R, .int .i64 (G + 1), .slice a4 l c4] 0 _ HB⟩
set_option maxRecDepth 20000 in
set_option maxHeartbeats 2000000 in
theorem likeWood_rows (a a' b d d' e : Option Addr) (n n' p c c' f k k' l : Nat) (bs ns : List Bool) (ps : List ByteArray) (root gen : Int) (w : World) (hn : n = bs.length) (hn' : n' = ns.length) (hp : p = ps.length) (h1 : IsB w a c bs) (h2 : IsB w a' c' ns) (h3 : IsS w b f ps) (k1 : IsB w d k bs) (k2 : IsB w d' k' ns) (k3 : IsS w e l ps) :
  Calls Tryz.prog 41 #[.agg #[.slice a n c, .slice a' n' c', .slice b p f, .int .i64 root, .int .i64 gen], .agg #[.slice d n k, .slice d' n' k', .slice e p l, .int .i64 root, .int .i64 gen]] w fun e w' => e = .returned (.bool true) ∧ Below w.heap.size w w' := by
 obtain ⟨W, hW⟩ : ∃ W, W = (w.alloc (.cells #[.slice a n c, .slice a' n' c', .slice b p f, .int .i64 root, .int .i64 gen] 40)).alloc (.cells #[.slice d n k, .slice d' n' k', .slice e p l, .int .i64 root, .int .i64 gen] 40) := ⟨_, rfl⟩
 have B1 : WoodBox W w.heap.size (.slice a n c) (.slice a' n' c') (.slice b p f) (.int .i64 root) (.int .i64 gen) := by rw [hW]; exact (woodBox_new _ _ _ _ _ _ _ rfl).below ((Below.refl _ _).alloc (Nat.le_refl _) _)
 have B2 : WoodBox W (w.heap.size + 1) (.slice d n k) (.slice d' n' k') (.slice e p l) (.int .i64 root) (.int .i64 gen) := by rw [hW]; exact woodBox_new _ _ _ _ _ _ _ (by simp)
 have HB : Below w.heap.size w W := by rw [hW]; exact ((Below.refl _ _).alloc (Nat.le_refl _) _).alloc (by simp) _
 have cL : Calls Tryz.prog 83 #[.agg #[.slice a n c, .slice a' n' c'], .agg #[.slice d n k, .slice d' n' k']] W fun x w' => x = .returned (.bool true) ∧ Below W.heap.size W w' := by
  have := allocLike_any a a' d d' c c' k k' n n' n n' bs ns bs ns W hn hn' hn hn' (h1.below HB) (h2.below HB) (k1.below HB) (k2.below HB)
  rw [likeA_same] at this
  exact this
 have EP : Hid (p = ps.length) := hp
 have P1 : Hid (IsS w b f ps) := h3
 have P2 : Hid (IsS w e l ps) := k3
 have mp : p ≤ 9223372036854775807 := by rw [hp]; exact Nat.le_trans h3.1 h3.2.1
 have rr : ((root : Int) != root) = false := by simp
 have rg : ((gen : Int) != gen) = false := by simp
 clear h1 h2 h3 k1 k2 k3 hn hn' hp
 obtain ⟨x0, x1, x2, x3, x4⟩ := id (hW ▸ B1)
 obtain ⟨y0, y1, y2, y3, y4⟩ := id (hW ▸ B2)
 go_enter Tryz.func41, Tryz.ntmps41
 go_wp2_with (go_at_call 83; rw [← hW]; refine cL.mono ?_; rintro y w1 ⟨rfl, hb⟩; replace B1 := B1.below hb; replace B2 := B2.below hb; replace HB := Below.tr HB hb; clear hb cL x0 x1 x2 x3 x4 y0 y1 y2 y3 y4; obtain ⟨x0, x1, x2, x3, x4⟩ := id B1; obtain ⟨y0, y1, y2, y3, y4⟩ := id B2)
 clear x0 x1 x2 x3 x4 y0 y1 y2 y3 y4
 go_loopw [48] (fun v wr => ∃ j : Nat, j ≤ p ∧ v = .int .i64 j ∧ WoodBox wr w.heap.size (.slice a n c) (.slice a' n' c') (.slice b p f) (.int .i64 root) (.int .i64 gen) ∧ WoodBox wr (w.heap.size + 1) (.slice d n k) (.slice d' n' k') (.slice e p l) (.int .i64 root) (.int .i64 gen) ∧ Below w.heap.size w wr) (fun v _ => p - (intOf v).toNat)
 case atStart => exact ⟨0, by omega, rfl, B1, B2, HB⟩
 case round =>
  clear B1 B2 HB
  obtain ⟨j, hj, rfl, B1, B2, HB⟩ := hrel
  by_cases hlt : j < p
  ·
   have hlt' : (j : Int) < p := by omega
   obtain ⟨s, hs⟩ : ∃ x, Hid (ps[j]? = some x) := ⟨_, List.getElem?_eq_getElem (by rw [← EP.out]; exact hlt)⟩
   obtain ⟨g1, o1, rfl, -, hc0, -⟩ := P1.out.2.2 j s hs.out
   obtain ⟨g2, o2, rfl, -, hc1, -⟩ := P2.out.2.2 j s hs.out
   have z0 := cell_below HB hc0
   have z1 := cell_below HB hc1
   have s0 := str_eq_true (rfl : s = s)
   clear hc0 hc1
   obtain ⟨x0, x1, x2, x3, x4⟩ := id B1
   obtain ⟨y0, y1, y2, y3, y4⟩ := id B2
   go_wp2
   go_region
   go_wp2
   go_roundw
   case rel => exact ⟨j + 1, by omega, by go_num, B1.below (Below.refl _ _).drew, B2.below (Below.refl _ _).drew, HB.drew⟩
   case measure => simp [intOf]; omega
  ·
   obtain rfl : p = j := by omega
   have hj0 : ¬ (p : Int) < p := by omega
   go_wp2
   go_ret
   exact ⟨rfl, HB⟩
set_option maxRecDepth 20000 in
set_option maxHeartbeats 4000000 in
theorem foundLike_same (E : Int) (bs : List ByteArray) (t : ByteArray) (i : Nat) (x y : Value) (w : World) (hx : FoundA E bs t i w x) (hy : FoundA E bs t i w y) :
  Calls Tryz.prog 14 #[x, y] w fun e w' => e = .returned (.bool true) ∧ Below w.heap.size w w' := by
 obtain ⟨a1, c1, a2, c2, a3, c3, a4, c4, rfl, h1, h2, h3, h4⟩ := hx
 obtain ⟨d1, e1, d2, e2, d3, e3, d4, e4, rfl, k1, k2, k3, k4⟩ := hy
 generalize mtL E (wdU bs t) = U at *
 generalize mtL E (pgL bs (wdU bs t)) = P at *
 generalize mtL E (scanR (suG t) 0 ((bs.take 10).drop 2)) = S at *
 generalize mtN E (suG t) = G
 generalize mtN E (suR t) = R
 generalize mtN E (suM t) = M
 generalize mtN E (suZ t) = Z
 generalize mtN E (suG t + 1) = G1
 generalize mtI E i = I
 obtain ⟨n, hn⟩ : ∃ n, n = U.length := ⟨_, rfl⟩
 obtain ⟨p, hp⟩ : ∃ n, n = P.length := ⟨_, rfl⟩
 obtain ⟨l, hl⟩ : ∃ n, n = S.length := ⟨_, rfl⟩
 have cW : ∀ V, Below w.heap.size w V → Calls Tryz.prog 41 #[.agg #[.slice a1 n c1, .slice a2 n c2, .slice a3 p c3, .int .i64 R, .int .i64 G1], .agg #[.slice d1 n e1, .slice d2 n e2, .slice d3 p e3, .int .i64 R, .int .i64 G1]] V fun e w' => e = .returned (.bool true) ∧ Below V.heap.size V w' :=
  fun V hV => likeWood_rows a1 a2 a3 d1 d2 d3 n n p c1 c2 c3 e1 e2 e3 U U P R G1 V hn hn hp (h1.below hV) (h2.below hV) (h3.below hV) (k1.below hV) (k2.below hV) (k3.below hV)
 have cS : ∀ V, Below w.heap.size w V → Calls Tryz.prog 42 #[.slice a4 l c4, .slice d4 l e4] V fun e w' => e = .returned (.bool true) ∧ Below V.heap.size V w' := by
  intro V hV
  have := ringSame_any a4 d4 c4 e4 S S V (h4.below hV) (k4.below hV)
  rw [← hl] at this
  simpa using this
 rw [← hn, ← hp, ← hl]
 clear h1 h2 h3 h4 k1 k2 k3 k4 hn hp hl
 obtain ⟨W0, hW0⟩ : ∃ W0, W0 = (w.alloc (.cells #[.int .i64 G, .int .i64 R, .int .i64 M, .int .i64 Z, .int .i64 I, .slice a1 n c1, .slice a2 n c2, .slice a3 p c3, .int .i64 R, .int .i64 G1, .slice a4 l c4] 42)).alloc (.cells #[.int .i64 G, .int .i64 R, .int .i64 M, .int .i64 Z, .int .i64 I, .slice d1 n e1, .slice d2 n e2, .slice d3 p e3, .int .i64 R, .int .i64 G1, .slice d4 l e4] 42) := ⟨_, rfl⟩
 have HB : Below w.heap.size w W0 := by rw [hW0]; exact ((Below.refl _ _).alloc (Nat.le_refl _) _).alloc (by simp) _
 have bA : BoxL W0 w.heap.size [.int .i64 G, .int .i64 R, .int .i64 M, .int .i64 Z, .int .i64 I, .slice a1 n c1, .slice a2 n c2, .slice a3 p c3, .int .i64 R, .int .i64 G1, .slice a4 l c4] := by rw [hW0]; exact (boxL_new w _ _ rfl).alloc _
 have bB : BoxL W0 (w.heap.size + 1) [.int .i64 G, .int .i64 R, .int .i64 M, .int .i64 Z, .int .i64 I, .slice d1 n e1, .slice d2 n e2, .slice d3 p e3, .int .i64 R, .int .i64 G1, .slice d4 l e4] := by rw [hW0]; exact boxL_new _ _ _ (by simp)
 go_enter Tryz.func14, Tryz.ntmps14
 go_wp2_with (first
  | (go_at_call 41; rw [← hW0]; refine (cW _ HB).mono ?_; rintro e w1 ⟨rfl, hb⟩; replace HB := Below.tr HB hb; replace bA := bA.below hb; replace bB := bB.below hb; have x10 := bA.1 10 _ rfl; have y10 := bB.1 10 _ rfl; clear hb)
  | (go_at_call 42; refine (cS _ HB).mono ?_; rintro e w2 ⟨rfl, hb⟩; replace HB := Below.tr HB hb; clear hb))
 go_ret
 exact ⟨ret_bool (by simp), HB⟩
end Go.Proofs.YtaobfgplheoefaaGreat
namespace Go.Proofs.YtaobfgplheoefaaGreat
open Go.RowKit Plain Go.ChangeShapes Go.WideShapes
set_option linter.unusedVariables false
set_option maxRecDepth 20000
theorem open_P {H : Type} {enc : TypeId × Value → H} {w : World} {fuel : Nat} {v : Value} {x : DataW H × List MemPlace}
  (h : DataW.trod enc Tryz.prog w 0 (fun _ => true) true fuel 23 [v] = some x) : ∃ a c ps, v = .slice a ps.length c ∧ IsP w a c ps := by
 rcases Deep.open_slice_pairs Tryz.underlying23 Tryz.underlying66 (by kernel_rfl) rfl rfl (by kernel_rfl) (by kernel_rfl) h with ⟨hcs, _⟩ | ⟨a, l, c, m, n, V0, V1, D0, D1, P0, P1, hcs, _, hl, hm, hmm, _, hcell⟩
 ·
  simp at hcs
  exact ⟨none, 0, [], hcs, IsP_nil _⟩
 ·
  simp at hcs
  simp at hmm
  have each : ∀ i, i < m → ∃ p : Int × ByteArray, w.cell? (a.add (i * 2)) = some (.int .i64 p.1) ∧ w.cell? (a.add (i * 2 + 1)) = some (.string p.2) ∧ p.2.size ≤ maxLen ∧ -9223372036854775808 ≤ p.1 ∧ p.1 ≤ 9223372036854775807 := by
   intro i hi
   obtain ⟨h0, h1, g0, g1⟩ := hcell i hi
   obtain ⟨k, hk, _, hkw⟩ := DataW.trod_int (k := .i64) Tryz.underlying3 g0
   obtain ⟨s, hs, _, hss⟩ := DataW.trod_string Tryz.underlying9 g1
   simp at hk hs
   rw [hk] at h0
   rw [hs] at h1
   have hb : -9223372036854775808 ≤ k ∧ k ≤ 9223372036854775807 := by simpa [Lit.wf, IntKind.min, IntKind.max, IntKind.signed, IntKind.bits] using hkw
   exact ⟨(k, s), h0, h1, hss, hb.1, hb.2⟩
  obtain ⟨q, hq⟩ := Deep.choose_lt each
  refine ⟨some a, c, (List.range l).map q, by rw [List.length_map, List.length_range]; exact hcs, by rw [List.length_map, List.length_range]; exact hl, hm, fun j p hp => ?_⟩
  have hj : j < l := by
   have := (List.getElem?_eq_some_iff.1 hp).1
   rw [List.length_map, List.length_range] at this; exact this
  rw [List.getElem?_map, List.getElem?_range hj] at hp
  obtain rfl : q j = p := Option.some.inj hp
  obtain ⟨h0, h1, h2⟩ := hq j (by omega)
  obtain ⟨b, o, rfl, hb⟩ := spot_none (hq 0 (by omega)).1
  rw [at_add] at h0 h1
  exact ⟨b, o, rfl, hb, h0, by rw [Nat.add_assoc]; exact h1, h2⟩
theorem open_dev {H : Type} {enc : TypeId × Value → H} {w : World} {r : Reach} {b0 : Nat} {v : Value} {d : DataW H} {p : List MemPlace}
  (hv : Value.okWide Tryz.prog w r b0 25 v) (h : DataW.Trod enc Tryz.prog w 0 (fun _ => true) true 25 v d p) :
  ∃ a c bs a' c' ps, v = .agg #[.slice a bs.length c, .slice a' ps.length c'] ∧ IsS w a c bs ∧ IsP w a' c' ps := by
 obtain ⟨v0, v1, y0, y1, n, rfl, _, _, h0, h1⟩ := Joins.open_agg2 Tryz.underlying25 (by kernel_rfl) (by kernel_rfl) hv h
 obtain ⟨a, c, bs, rfl, hS⟩ := open_S h0
 obtain ⟨a', c', ps, rfl, hP⟩ := open_P h1
 exact ⟨a, c, bs, a', c', ps, rfl, hS, hP⟩
end Go.Proofs.YtaobfgplheoefaaGreat

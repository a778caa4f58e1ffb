/-
  Package task: reading a state's bytes.
-/
import Derived.Test.YtnipikdlfmcheaaTaskStand
import Derived.Test.YtnipikdlfmcheaaNxAt
import Derived.Test.YtnipikdlfmcheaaBoxTurns
import Derived.Test.YtnipikdlfmcheaaGet
namespace Go.Proofs.Ytnipikdlfmcheaa
open Go.RowKit Plain
set_option linter.unusedVariables false

set_option maxRecDepth 20000 in
set_option maxHeartbeats 1000000 in
/-- NEXT; the world behind it is known ahead. -/
theorem nextT_any (hs hp he : Nat) (s : ByteArray) (p e k : Int) (V : World) (r : NxAt V hs hp he s p e) (hz : s.size ≤ maxLen) :
    ∃ w1, NxAt w1 hs hp he s (gnP s p e k) (gnE s p e k) ∧ Turns (TwoB hp he) V w1 ∧ w1.heap.size = V.heap.size ∧
      Calls Try.prog 52 #[.int .i64 k, .pointer (some ⟨he, 0, none⟩), .pointer (some ⟨hs, 0, none⟩), .pointer (some ⟨hp, 0, none⟩)] V fun x w' => x = .returned (.int .i64 (gnR s p e k)) ∧ w' = w1 := by
  obtain ⟨rb, rp, re, fp, fe, n1, n2, n3⟩ := id r
  by_cases h0 : e = 0
  · subst h0
    have e1 : gnR s p 0 k = getR s p k := if_pos rfl
    have e2 : gnP s p 0 k = getT s p k := if_pos rfl
    have e3 : gnE s p 0 k = getE s p k := if_pos rfl
    rw [e1, e2, e3]
    have cC := fun V => get_any s p k V hz
    generalize getR s p k = x at *
    generalize getT s p k = q at *
    generalize getE s p k = y at *
    clear e1 e2 e3
    have fe' : (V.setCell ⟨hp, 0, none⟩ (.int .i64 q)).frozen? ⟨he, 0, none⟩ = false := by simpa using fe
    have re' : (V.setCell ⟨hp, 0, none⟩ (.int .i64 q)).cell? ⟨he, 0, none⟩ = some (.int .i64 0) := cell_set_other (.inl (fun h => n3 h.symm)) re
    refine ⟨(V.setCell ⟨hp, 0, none⟩ (.int .i64 q)).setCell ⟨he, 0, none⟩ (.int .i64 y), r.put q y, ((Turns.refl (TwoB hp he) V).setCell (p := ⟨hp, 0, none⟩) (.inl rfl) _).setCell (p := ⟨he, 0, none⟩) (.inr rfl) _, by simp, ?_⟩
    clear r
    go_enter Try.func52, Try.ntmps52
    go_wp2_with (go_at_call 53; refine (cC _).mono ?_; rintro e w' ⟨rfl, rfl⟩)
    go_ret
    exact ⟨rfl, rfl⟩
  · have e1 : gnR s p e k = 0 := if_neg h0
    have e2 : gnP s p e k = p := if_neg h0
    have e3 : gnE s p e k = e := if_neg h0
    rw [e1, e2, e3]
    have he' : (e == 0) = false := by simpa using h0
    refine ⟨V, r, Turns.refl _ _, rfl, ?_⟩
    clear e1 e2 e3 r
    go_enter Try.func52, Try.ntmps52
    go_wp2
    go_ret
    exact ⟨rfl, rfl⟩

/-- What read answers. -/
def rdT (s : ByteArray) : StP := if e4T s = 0 then rawT s else zeroT
def rdP (s : ByteArray) : Int := if e4T s = 0 then cutT s (p4T s) else 0
def rdE (s : ByteArray) : Int := if e4T s = 0 then cutE s (p4T s) else e4T s

/-- One field stored, beside the reader's boxes. -/
theorem NxAt.field {V : World} {h0 h3 h4 h2 j : Nat} {s : ByteArray} {p e : Int} (r : NxAt V h0 h3 h4 s p e) (n0 : h0 ≠ h2) (n3 : h3 ≠ h2) (n4 : h4 ≠ h2) (u : Value) : NxAt (V.setCell ⟨h2, j, none⟩ u) h0 h3 h4 s p e :=
  r.turns (P := fun k => k = h2) ((Turns.refl (fun k => k = h2) V).setCell (p := ⟨h2, j, none⟩) rfl u) n0 n3 n4

/-- A state in a box, all of it stored anew. -/
theorem boxL_set5 {w : World} {h : Nat} {v0 v1 v2 v3 v4 : Value} (b : BoxL w h [v0, v1, v2, v3, v4]) (u0 u1 u2 u3 u4 : Value) :
    BoxL (((((w.setCell ⟨h, 0, none⟩ u0).setCell ⟨h, 1, none⟩ u1).setCell ⟨h, 2, none⟩ u2).setCell ⟨h, 3, none⟩ u3).setCell ⟨h, 4, none⟩ u4) h [u0, u1, u2, u3, u4] := ((((b.set 0 u0).set 1 u1).set 2 u2).set 3 u3).set 4 u4
theorem below_setT {n h : Nat} {w w1 : World} (hb : Below n w w1) (hh : n ≤ h) (u0 u1 u2 u3 u4 : Value) :
    Below n w (((((w1.setCell ⟨h, 0, none⟩ u0).setCell ⟨h, 1, none⟩ u1).setCell ⟨h, 2, none⟩ u2).setCell ⟨h, 3, none⟩ u3).setCell ⟨h, 4, none⟩ u4) :=
  ((((hb.setCell (p := ⟨h, 0, none⟩) hh u0).setCell (p := ⟨h, 1, none⟩) hh u1).setCell (p := ⟨h, 2, none⟩) hh u2).setCell (p := ⟨h, 3, none⟩) hh u3).setCell (p := ⟨h, 4, none⟩) hh u4

/-- The reader's boxes: the text, what is answered, what is read so far, the place and the first error. -/
structure RdAt (w V : World) (s : ByteArray) (p e : Int) (vs : List Value) : Prop where
  nx : NxAt V w.heap.size (w.heap.size + 1 + 1 + 1) (w.heap.size + 1 + 1 + 1 + 1) s p e
  out : BoxL V (w.heap.size + 1) [.int .i64 0, .int .i64 0, .int .i64 0, .int .i64 0, .string ⟨#[]⟩]
  st : BoxL V (w.heap.size + 1 + 1) vs
  hB : Below w.heap.size w V

theorem RdAt.step {w V : World} {s : ByteArray} {p e : Int} {vs : List Value} (r : RdAt w V s p e vs) (k : Int) (j : Nat) (u : Value) (hj : vs[j]? = some u) (hz : s.size ≤ maxLen) {x p' e' : Int} (hx : gnR s p e k = x) (hp : gnP s p e k = p') (he : gnE s p e k = e') :
    ∃ V', Calls Try.prog 52 #[.int .i64 k, .pointer (some ⟨w.heap.size + 1 + 1 + 1 + 1, 0, none⟩), .pointer (some ⟨w.heap.size, 0, none⟩), .pointer (some ⟨w.heap.size + 1 + 1 + 1, 0, none⟩)] V (fun y w' => y = .returned (.int .i64 x) ∧ w' = V') ∧
      V'.cell? ⟨w.heap.size + 1 + 1, j, none⟩ = some u ∧ V'.frozen? ⟨w.heap.size + 1 + 1, j, none⟩ = false ∧ RdAt w (V'.setCell ⟨w.heap.size + 1 + 1, j, none⟩ (.int .i64 x)) s p' e' (vs.set j (.int .i64 x)) := by
  subst hx hp he
  obtain ⟨V', r1, t1, z1, c1⟩ := nextT_any _ _ _ s p e k V r.nx hz
  have o1 : ¬ TwoB (w.heap.size + 1 + 1 + 1) (w.heap.size + 1 + 1 + 1 + 1) (w.heap.size + 1) := by rintro (h | h) <;> omega
  have o2 : ¬ TwoB (w.heap.size + 1 + 1 + 1) (w.heap.size + 1 + 1 + 1 + 1) (w.heap.size + 1 + 1) := by rintro (h | h) <;> omega
  have b2 := boxL_turns r.st t1 o2
  refine ⟨V', c1, b2.1 j u hj, b2.2 j (List.getElem?_eq_some_iff.1 hj).1, r1.field (by omega) (by omega) (by omega) _, (boxL_turns r.out t1 o1).off (by omega), b2.set j _, ?_⟩
  exact (Below.turns r.hB t1 (by rintro i (h | h) <;> omega)).setCell (p := ⟨w.heap.size + 1 + 1, j, none⟩) (by show _ ≤ w.heap.size + 1 + 1; omega) _

set_option maxRecDepth 20000 in
set_option maxHeartbeats 4000000 in
theorem readT_any (s : ByteArray) (w : World) (hz : s.size ≤ maxLen) :
    Calls Try.prog 42 #[.string s] w fun e w' => e = .returned (.tuple #[vT (rdT s), .int .i64 (rdP s), .int .i64 (rdE s)]) ∧ Below w.heap.size w w' := by
  obtain ⟨W, hW⟩ : ∃ W, W = ((((w.alloc (.cells #[.string s] 9)).alloc (.cells #[.int .i64 0, .int .i64 0, .int .i64 0, .int .i64 0, .string ⟨#[]⟩] 26)).alloc (.cells #[.int .i64 0, .int .i64 0, .int .i64 0, .int .i64 0, .string ⟨#[]⟩] 26)).alloc (.cells #[.int .i64 0] 3)).alloc (.cells #[.int .i64 0] 32) := ⟨_, rfl⟩
  have R0 : RdAt w W s 0 0 [.int .i64 0, .int .i64 0, .int .i64 0, .int .i64 0, .string ⟨#[]⟩] := by
    have b0 : BoxL W w.heap.size [.string s] := by rw [hW]; exact ((((boxL_new w [.string s] 9 rfl).alloc _).alloc _).alloc _).alloc _
    have b1 : BoxL W (w.heap.size + 1) [.int .i64 0, .int .i64 0, .int .i64 0, .int .i64 0, .string ⟨#[]⟩] := by rw [hW]; exact (((boxL_new _ [.int .i64 0, .int .i64 0, .int .i64 0, .int .i64 0, .string ⟨#[]⟩] 26 (by simp)).alloc _).alloc _).alloc _
    have b2 : BoxL W (w.heap.size + 1 + 1) [.int .i64 0, .int .i64 0, .int .i64 0, .int .i64 0, .string ⟨#[]⟩] := by rw [hW]; exact ((boxL_new _ [.int .i64 0, .int .i64 0, .int .i64 0, .int .i64 0, .string ⟨#[]⟩] 26 (by simp)).alloc _).alloc _
    have b3 : BoxL W (w.heap.size + 1 + 1 + 1) [.int .i64 0] := by rw [hW]; exact (boxL_new _ [.int .i64 0] 3 (by simp)).alloc _
    have b4 : BoxL W (w.heap.size + 1 + 1 + 1 + 1) [.int .i64 0] := by rw [hW]; exact boxL_new _ [.int .i64 0] 32 (by simp)
    have hB : Below w.heap.size w W := by rw [hW]; exact (bel4 _ _ _ _ _).alloc (by simp; omega) _
    exact ⟨⟨b0.1 0 _ rfl, b3.1 0 _ rfl, b4.1 0 _ rfl, b3.2 0 (by simp), b4.2 0 (by simp), by omega, by omega, by omega⟩, b1, b2, hB⟩
  have HT : Hid (rdT s = if e4T s = 0 then rawT s else zeroT) := rfl
  have HP : Hid (rdP s = if e4T s = 0 then cutT s (p4T s) else 0) := rfl
  have HE : Hid (rdE s = if e4T s = 0 then cutE s (p4T s) else e4T s) := rfl
  obtain ⟨I, T, D, K, X, hq⟩ : ∃ I T D K X, rawT s = ⟨I, T, D, K, X⟩ := ⟨_, _, _, _, _, rfl⟩
  have i1 : (rawT s).i = I := by rw [hq]
  have i2 : (rawT s).t = T := by rw [hq]
  have i3 : (rawT s).d = D := by rw [hq]
  have i4 : (rawT s).k = K := by rw [hq]
  have i5 : cutS s (p4T s) = X := by show (rawT s).r = X; rw [hq]
  obtain ⟨V1, c1, x1, f1, R1⟩ := R0.step 1 0 _ rfl hz (p' := p1T s) (e' := e1T s) i1 rfl rfl
  obtain ⟨V2, c2, x2, f2, R2⟩ := R1.step 1 1 _ rfl hz (p' := p2T s) (e' := e2T s) i2 rfl rfl
  obtain ⟨V3, c3, x3, f3, R3⟩ := R2.step 6 2 _ rfl hz (p' := p3T s) (e' := e3T s) i3 rfl rfl
  obtain ⟨V4, c4, x4, f4, R4⟩ := R3.step 6 3 _ rfl hz (p' := p4T s) (e' := e4T s) i4 rfl rfl
  rw [hq] at HT
  have cC := fun W => cut_any s (p4T s) W hz
  rw [i5] at cC
  clear i1 i2 i3 i4 i5 hq R0 R1 R2 R3
  generalize p4T s = P at *
  generalize e4T s = E at *
  generalize rdT s = QT at *
  generalize rdP s = QP at *
  generalize rdE s = QE at *
  generalize cutT s P = ct at *
  generalize cutE s P = ce at *
  obtain ⟨nx, bo, bs, hB⟩ := R4
  obtain ⟨na, nb, nc, nd, ne, -, -, n3⟩ := id nx
  have u4 := bs.1 4 _ rfl
  have v4 := bs.2 4 (by simp)
  have t1 := trivial
  have t2 := trivial
  have t3 := trivial
  by_cases h0 : E = 0
  · subst h0
    obtain rfl : QT = ⟨I, T, D, K, X⟩ := HT.out
    obtain rfl : QP = ct := HP.out
    obtain rfl : QE = ce := HE.out
    clear HT HP HE
    have ny := nx.field (j := 4) (h2 := w.heap.size + 1 + 1) (by omega) (by omega) (by omega) (.string X)
    have bt := bs.set 4 (.string X)
    have bp := bo.off (k := w.heap.size + 1 + 1) (i := 4) (u := .string X) (by omega)
    have hC := hB.setCell (p := ⟨w.heap.size + 1 + 1, 4, none⟩) (by show _ ≤ w.heap.size + 1 + 1; omega) (.string X)
    obtain ⟨-, mb, mc, md, me, -, -, -⟩ := id ny
    have nz := ny.put QP QE
    have bt2 := (bt.off (k := w.heap.size + 1 + 1 + 1) (i := 0) (u := .int .i64 QP) (by omega)).off (k := w.heap.size + 1 + 1 + 1 + 1) (i := 0) (u := .int .i64 QE) (by omega)
    have bp2 := (bp.off (k := w.heap.size + 1 + 1 + 1) (i := 0) (u := .int .i64 QP) (by omega)).off (k := w.heap.size + 1 + 1 + 1 + 1) (i := 0) (u := .int .i64 QE) (by omega)
    have hD := (hC.setCell (p := ⟨w.heap.size + 1 + 1 + 1, 0, none⟩) (by show _ ≤ w.heap.size + 1 + 1 + 1; omega) (.int .i64 QP)).setCell (p := ⟨w.heap.size + 1 + 1 + 1 + 1, 0, none⟩) (by show _ ≤ w.heap.size + 1 + 1 + 1 + 1; omega) (.int .i64 QE)
    have oc := cell_set_other (w := (V4.setCell ⟨w.heap.size + 1 + 1, 3, none⟩ (.int .i64 K)).setCell ⟨w.heap.size + 1 + 1, 4, none⟩ (.string X)) (k := w.heap.size + 1 + 1 + 1) (j := 0) (u := .int .i64 QP) (.inl (by omega)) mc
    clear ny bt bp hC bo bs nx hB
    go_enter Try.func42, Try.ntmps42
    go_wp2_with
      (first
        | (have _t := t1; go_at_call 52; rw [← hW]; refine c1.mono ?_; clear t1 _t; rintro e w1 ⟨rfl, rfl⟩; clear hW)
        | (have _t := t2; go_at_call 52; refine c2.mono ?_; clear t2 _t; rintro e w2 ⟨rfl, rfl⟩)
        | (have _t := t3; go_at_call 52; refine c3.mono ?_; clear t3 _t; rintro e w3 ⟨rfl, rfl⟩)
        | (go_at_call 52; refine c4.mono ?_; rintro e w4 ⟨rfl, rfl⟩)
        | (go_at_call 54; refine (cC _).mono ?_; rintro e w5 ⟨rfl, rfl⟩))
    clear c1 c2 c3 c4 x1 x2 x3 x4 f1 f2 f3 f4 na nb nc nd ne u4 v4 mb mc md me oc
    generalize (((w4.setCell _ _).setCell _ _).setCell _ _).setCell _ _ = Z at *
    have s0 := bt2.1 0 _ rfl
    have s1 := bt2.1 1 _ rfl
    have s2 := bt2.1 2 _ rfl
    have s3 := bt2.1 3 _ rfl
    have s4 := bt2.1 4 _ rfl
    have p0 := nz.p
    have e0 := nz.e
    have g0 := bp2.2 0 (by simp)
    have g1 := bp2.2 1 (by simp)
    have g2 := bp2.2 2 (by simp)
    have g3 := bp2.2 3 (by simp)
    have g4 := bp2.2 4 (by simp)
    have o0 := bp2.1 0 _ rfl
    have o1 := bp2.1 1 _ rfl
    have o2 := bp2.1 2 _ rfl
    have o3 := bp2.1 3 _ rfl
    have o4 := bp2.1 4 _ rfl
    go_region
    go_wp2
    have zz := boxL_set5 bp2 (.int .i64 I) (.int .i64 T) (.int .i64 D) (.int .i64 K) (.string X)
    have z0 := zz.1 0 _ rfl
    have z1 := zz.1 1 _ rfl
    have z2 := zz.1 2 _ rfl
    have z3 := zz.1 3 _ rfl
    have z4 := zz.1 4 _ rfl
    exact bodyPost_ret (v := .tuple #[.agg #[.int .i64 I, .int .i64 T, .int .i64 D, .int .i64 K, .string X], .int .i64 QP, .int .i64 QE]) (by simp [results, Try.results42, go_sem, z0, z1, z2, z3, z4]) rfl ⟨rfl, (below_setT hD (by omega) _ _ _ _ _).drew⟩
  · have h0' : (E != 0) = true := by simpa using h0
    obtain rfl : QT = zeroT := HT.out.trans (if_neg h0)
    obtain rfl : QP = 0 := HP.out.trans (if_neg h0)
    obtain rfl : QE = E := HE.out.trans (if_neg h0)
    clear HT HP HE
    go_enter Try.func42, Try.ntmps42
    go_wp2_with
      (first
        | (have _t := t1; go_at_call 52; rw [← hW]; refine c1.mono ?_; clear t1 _t; rintro e w1 ⟨rfl, rfl⟩; clear hW)
        | (have _t := t2; go_at_call 52; refine c2.mono ?_; clear t2 _t; rintro e w2 ⟨rfl, rfl⟩)
        | (have _t := t3; go_at_call 52; refine c3.mono ?_; clear t3 _t; rintro e w3 ⟨rfl, rfl⟩)
        | (go_at_call 52; refine c4.mono ?_; rintro e w4 ⟨rfl, rfl⟩)
        | (go_at_call 54; refine (cC _).mono ?_; rintro e w5 ⟨rfl, rfl⟩))
    clear c1 c2 c3 c4 x1 x2 x3 x4 f1 f2 f3 f4 na nb nc nd ne u4 v4
    generalize w4.setCell _ _ = Z at *
    have e0 := nx.e
    have g0 := bo.2 0 (by simp)
    have g1 := bo.2 1 (by simp)
    have g2 := bo.2 2 (by simp)
    have g3 := bo.2 3 (by simp)
    have g4 := bo.2 4 (by simp)
    have o0 := bo.1 0 _ rfl
    have o1 := bo.1 1 _ rfl
    have o2 := bo.1 2 _ rfl
    have o3 := bo.1 3 _ rfl
    have o4 := bo.1 4 _ rfl
    go_region
    go_wp2
    have zz := boxL_set5 bo (.int .i64 0) (.int .i64 0) (.int .i64 0) (.int .i64 0) (.string ⟨#[]⟩)
    have z0 := zz.1 0 _ rfl
    have z1 := zz.1 1 _ rfl
    have z2 := zz.1 2 _ rfl
    have z3 := zz.1 3 _ rfl
    have z4 := zz.1 4 _ rfl
    exact bodyPost_ret (v := .tuple #[.agg #[.int .i64 0, .int .i64 0, .int .i64 0, .int .i64 0, .string ⟨#[]⟩], .int .i64 0, .int .i64 QE]) (by simp [results, Try.results42, go_sem, z0, z1, z2, z3, z4]) rfl ⟨rfl, (below_setT hB (by omega) _ _ _ _ _).drew⟩

end Go.Proofs.Ytnipikdlfmcheaa

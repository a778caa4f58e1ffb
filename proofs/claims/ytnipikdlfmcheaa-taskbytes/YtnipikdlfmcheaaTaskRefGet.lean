/-
  The document's own Get of a state.
-/
import Derived.Test.YtnipikdlfmcheaaTaskGet
import Derived.Test.YtnipikdlfmcheaaTaskRefRight
import Derived.Test.YtnipikdlfmcheaaDagRefNext
namespace Go.Proofs.Ytnipikdlfmcheaa
open Go.RowKit Plain
set_option linter.unusedVariables false

set_option maxRecDepth 20000 in
set_option maxHeartbeats 1000000 in
/-- The document's text behind an error: nothing is read. -/
theorem refTextE_any (h : Nat) (s : ByteArray) (p e : Int) (V : World) (b : BoxL V h [.string s, .int .i64 p, .int .i64 e]) (h0 : ¬ e = 0) :
    Calls Try.prog 44 #[.pointer (some ⟨h, 0, none⟩)] V fun x w' => x = .returned (.string ⟨#[]⟩) ∧ V = w' := by
  have x2 := b.1 2 _ rfl
  have h0' : (e != 0) = true := by simpa using h0
  clear b
  go_enter Try.func44, Try.ntmps44
  go_wp2
  go_ret
  exact ⟨rfl, rfl⟩

/-- What the document's reader knows behind its text. -/
def rcX (s : ByteArray) : ByteArray := if e4T s = 0 then cutS s (p4T s) else ⟨#[]⟩
def rcP (s : ByteArray) : Int := if e4T s = 0 then cutT s (p4T s) else p4T s

theorem refTextT_any (h : Nat) (s : ByteArray) (V : World) (b : BoxL V h [.string s, .int .i64 (p4T s), .int .i64 (e4T s)]) (hz : s.size ≤ maxLen) :
    ∃ w1, BoxL w1 h [.string s, .int .i64 (rcP s), .int .i64 (rdE s)] ∧ Turns (fun i => i = h) V w1 ∧ w1.heap.size = V.heap.size ∧
      Calls Try.prog 44 #[.pointer (some ⟨h, 0, none⟩)] V fun x w' => x = .returned (.string (rcX s)) ∧ w' = w1 := by
  unfold rcX rcP rdE
  by_cases h4 : e4T s = 0
  · rw [if_pos h4, if_pos h4, if_pos h4]
    rw [h4] at b
    exact refTextR_any h s (p4T s) V b hz
  · rw [if_neg h4, if_neg h4, if_neg h4]
    exact ⟨V, b, Turns.refl _ _, rfl, (refTextE_any h s (p4T s) (e4T s) V b h4).mono fun e w' hh => ⟨hh.1, hh.2.symm⟩⟩

/-- The document's boxes: what is answered, its reader, what is read so far. -/
structure RfAt (w V : World) (s : ByteArray) (p e : Int) (vs : List Value) : Prop where
  out : BoxL V w.heap.size [.int .i64 0, .int .i64 0, .int .i64 0, .int .i64 0, .string ⟨#[]⟩]
  rd : BoxL V (w.heap.size + 1) [.string s, .int .i64 p, .int .i64 e]
  st : BoxL V (w.heap.size + 1 + 1) vs
  hB : Below w.heap.size w V

theorem RfAt.turn {w V V' U : World} {s : ByteArray} {p e p' e' : Int} {vs : List Value} (r : RfAt w V s p e vs) (b1 : BoxL V' (w.heap.size + 1) [.string s, .int .i64 p', .int .i64 e']) (t1 : Turns (fun i => i = w.heap.size + 1) V V') (j : Nat) (u u' : Value) (hj : vs[j]? = some u) :
    V'.cell? ⟨w.heap.size + 1 + 1, j, none⟩ = some u ∧ V'.frozen? ⟨w.heap.size + 1 + 1, j, none⟩ = false ∧ RfAt w (V'.setCell ⟨w.heap.size + 1 + 1, j, none⟩ u') s p' e' (vs.set j u') := by
  have b2 := boxL_turns r.st t1 (by omega)
  refine ⟨b2.1 j u hj, b2.2 j (List.getElem?_eq_some_iff.1 hj).1, (boxL_turns r.out t1 (by omega)).off (by omega), b1.off (by omega), b2.set j _, ?_⟩
  exact (Below.turns r.hB t1 (by intro i h; omega)).setCell (p := ⟨w.heap.size + 1 + 1, j, none⟩) (by show _ ≤ w.heap.size + 1 + 1; omega) _

theorem RfAt.step {w V : World} {s : ByteArray} {p e : Int} {vs : List Value} (r : RfAt w V s p e vs) (k : Int) (j : Nat) (u : Value) (hj : vs[j]? = some u) (hz : s.size ≤ maxLen) {x p' e' : Int} (hx : gnR s p e k = x) (hp : gnP s p e k = p') (he : gnE s p e k = e') :
    ∃ V', Calls Try.prog 43 #[.pointer (some ⟨w.heap.size + 1, 0, none⟩), .int .i64 k] V (fun y w' => y = .returned (.int .i64 x) ∧ w' = V') ∧
      V'.cell? ⟨w.heap.size + 1 + 1, j, none⟩ = some u ∧ V'.frozen? ⟨w.heap.size + 1 + 1, j, none⟩ = false ∧ RfAt w (V'.setCell ⟨w.heap.size + 1 + 1, j, none⟩ (.int .i64 x)) s p' e' (vs.set j (.int .i64 x)) := by
  subst hx hp he
  obtain ⟨V', b1, t1, z1, c1⟩ := refNext_any _ s p e k V r.rd hz
  obtain ⟨a1, a2, a3⟩ := r.turn (U := V') b1 t1 j u (.int .i64 (gnR s p e k)) hj
  exact ⟨V', c1, a1, a2, a3⟩


set_option maxRecDepth 20000 in
set_option maxHeartbeats 4000000 in
theorem refGetT_any (s : ByteArray) (w : World) (hz : s.size ≤ maxLen) :
    Calls Try.prog 28 #[.string s] w fun e w' => e = .returned (.tuple #[vT (gotT s), .int .i64 (gotE s)]) ∧ Below w.heap.size w w' := by
  have hzi : s.size ≤ 9223372036854775807 := hz
  obtain ⟨W, hW⟩ : ∃ W, W = ((w.alloc (.cells #[.int .i64 0, .int .i64 0, .int .i64 0, .int .i64 0, .string ⟨#[]⟩] 26)).alloc (.cells #[.string s, .int .i64 0, .int .i64 0] 63)).alloc (.cells #[.int .i64 0, .int .i64 0, .int .i64 0, .int .i64 0, .string ⟨#[]⟩] 26) := ⟨_, rfl⟩
  have R0 : RfAt w W s 0 0 [.int .i64 0, .int .i64 0, .int .i64 0, .int .i64 0, .string ⟨#[]⟩] := by
    rw [hW]
    exact ⟨((boxL_new w [.int .i64 0, .int .i64 0, .int .i64 0, .int .i64 0, .string ⟨#[]⟩] 26 rfl).alloc _).alloc _, (boxL_new _ [.string s, .int .i64 0, .int .i64 0] 63 (by simp)).alloc _, boxL_new _ [.int .i64 0, .int .i64 0, .int .i64 0, .int .i64 0, .string ⟨#[]⟩] 26 (by simp), bel3 _ _ _ _⟩
  have HG : Hid (rdE s = 0 → gotE s = (if rdP s = s.size ∧ standT (rdT s) = true then 0 else 4) ∧ gotT s = (if rdP s = s.size ∧ standT (rdT s) = true then rdT s else zeroT) ∧ (rdT s).r.size ≤ s.size) := fun h => rd_good h
  have HBad : Hid (¬ rdE s = 0 → gotE s = rdE s ∧ gotT s = zeroT) := fun h => rd_bad h
  have HX : Hid (rdE s = 0 → rdP s = rcP s ∧ rdT s = ⟨(rawT s).i, (rawT s).t, (rawT s).d, (rawT s).k, rcX s⟩) := fun h => by
    have h4 : e4T s = 0 := by
      by_cases h4 : e4T s = 0
      · exact h4
      · unfold rdE at h; rw [if_neg h4] at h; exact h
    unfold rdP rcP rdT rcX
    rw [if_pos h4, if_pos h4, if_pos h4, if_pos h4]
    exact ⟨rfl, rfl⟩
  obtain ⟨V1, c1, x1, f1, R1⟩ := R0.step 1 0 _ rfl hz (x := (rawT s).i) (p' := p1T s) (e' := e1T s) rfl rfl rfl
  obtain ⟨V2, c2, x2, f2, R2⟩ := R1.step 1 1 _ rfl hz (x := (rawT s).t) (p' := p2T s) (e' := e2T s) rfl rfl rfl
  obtain ⟨V3, c3, x3, f3, R3⟩ := R2.step 6 2 _ rfl hz (x := (rawT s).d) (p' := p3T s) (e' := e3T s) rfl rfl rfl
  obtain ⟨V4, c4, x4, f4, R4⟩ := R3.step 6 3 _ rfl hz (x := (rawT s).k) (p' := p4T s) (e' := e4T s) rfl rfl rfl
  obtain ⟨V5, b5, t5, -, c5⟩ := refTextT_any _ s _ R4.rd hz
  obtain ⟨x5, f5, R5⟩ := R4.turn (U := V5) b5 t5 4 _ (.string (rcX s)) rfl
  obtain ⟨bo, br, bs, hB⟩ := R5
  clear R0 R1 R2 R3 R4 b5 t5
  generalize (rawT s).i = I at *
  generalize (rawT s).t = T at *
  generalize (rawT s).d = D at *
  generalize (rawT s).k = K at *
  generalize rcX s = X at *
  generalize rcP s = P at *
  generalize rdE s = E at *
  generalize gotE s = QE at *
  generalize gotT s = QT at *
  have t1 := trivial
  have t2 := trivial
  have t3 := trivial
  have g0 := bo.2 0 (by simp)
  have g1 := bo.2 1 (by simp)
  have g2 := bo.2 2 (by simp)
  have g3 := bo.2 3 (by simp)
  have g4 := bo.2 4 (by simp)
  have o0 := bo.1 0 _ rfl
  have o1 := bo.1 1 _ rfl
  have o2 := bo.1 2 _ rfl
  have o3 := bo.1 3 _ rfl
  have o4 := bo.1 4 _ rfl
  have s0 := bs.1 0 _ rfl
  have s1 := bs.1 1 _ rfl
  have s2 := bs.1 2 _ rfl
  have s3 := bs.1 3 _ rfl
  have s4 := bs.1 4 _ rfl
  have r1 := br.1 1 _ rfl
  have r2 := br.1 2 _ rfl
  by_cases h0 : E = 0
  · subst h0
    obtain ⟨a1, a2⟩ := HX.out rfl
    obtain ⟨e1, e2, e3⟩ := HG.out rfl
    rw [a1, a2] at e1 e2
    rw [a2] at e3
    have cM := fun W => refStands_any I T D K X W (Nat.le_trans e3 hz)
    clear HX HG HBad a1 a2 e3
    by_cases hP : P = s.size
    · have hP' : (P != (s.size : Int)) = false := by simpa using hP
      cases hS : standT ⟨I, T, D, K, X⟩ with
      | true =>
        rw [if_pos ⟨hP, hS⟩] at e1 e2
        subst e1 e2
        rw [hS] at cM
        clear hP hS
        go_enter Try.func28, Try.ntmps28
        go_wp2_with
          (first
            | (have _t := t1; go_at_call 43; rw [← hW]; refine c1.mono ?_; clear t1 _t; rintro e w1 ⟨rfl, rfl⟩; clear hW)
            | (have _t := t2; go_at_call 43; refine c2.mono ?_; clear t2 _t; rintro e w2 ⟨rfl, rfl⟩)
            | (have _t := t3; go_at_call 43; refine c3.mono ?_; clear t3 _t; rintro e w3 ⟨rfl, rfl⟩)
            | (go_at_call 43; refine c4.mono ?_; rintro e w4 ⟨rfl, rfl⟩)
            | (go_at_call 44; refine c5.mono ?_; rintro e w5 ⟨rfl, rfl⟩)
            | (go_at_call 29; refine (cM _).mono ?_; rintro e w6 ⟨rfl, hb⟩; clear c1 c2 c3 c4 c5 x1 x2 x3 x4 x5 f1 f2 f3 f4 f5 g0 g1 g2 g3 g4 o0 o1 o2 o3 o4 s0 s1 s2 s3 s4 r1 r2; replace bo := bo.below hb; replace bs := bs.below hb; replace br := br.below hb; replace hB := Below.tr hB hb; clear hb
               have g0 := bo.2 0 (by simp)
               have g1 := bo.2 1 (by simp)
               have g2 := bo.2 2 (by simp)
               have g3 := bo.2 3 (by simp)
               have g4 := bo.2 4 (by simp)
               have o0 := bo.1 0 _ rfl
               have o1 := bo.1 1 _ rfl
               have o2 := bo.1 2 _ rfl
               have o3 := bo.1 3 _ rfl
               have o4 := bo.1 4 _ rfl
               have s0 := bs.1 0 _ rfl
               have s1 := bs.1 1 _ rfl
               have s2 := bs.1 2 _ rfl
               have s3 := bs.1 3 _ rfl
               have s4 := bs.1 4 _ rfl
               have r1 := br.1 1 _ rfl
               have r2 := br.1 2 _ rfl))
        have zz := boxL_set5 bo (.int .i64 I) (.int .i64 T) (.int .i64 D) (.int .i64 K) (.string X)
        have z0 := zz.1 0 _ rfl
        have z1 := zz.1 1 _ rfl
        have z2 := zz.1 2 _ rfl
        have z3 := zz.1 3 _ rfl
        have z4 := zz.1 4 _ rfl
        exact bodyPost_ret (v := .tuple #[.agg #[.int .i64 I, .int .i64 T, .int .i64 D, .int .i64 K, .string X], .int .i64 0]) (by simp [results, Try.results28, go_sem, z0, z1, z2, z3, z4]) rfl ⟨rfl, below_setT hB (Nat.le_refl _) _ _ _ _ _⟩
      | false =>
        have hn : ¬ (P = (s.size : Int) ∧ standT ⟨I, T, D, K, X⟩ = true) := fun hh => by rw [hS] at hh; cases hh.2
        rw [if_neg hn] at e1 e2
        subst e1 e2
        rw [hS] at cM
        clear hP hS hn
        go_enter Try.func28, Try.ntmps28
        go_wp2_with
          (first
            | (have _t := t1; go_at_call 43; rw [← hW]; refine c1.mono ?_; clear t1 _t; rintro e w1 ⟨rfl, rfl⟩; clear hW)
            | (have _t := t2; go_at_call 43; refine c2.mono ?_; clear t2 _t; rintro e w2 ⟨rfl, rfl⟩)
            | (have _t := t3; go_at_call 43; refine c3.mono ?_; clear t3 _t; rintro e w3 ⟨rfl, rfl⟩)
            | (go_at_call 43; refine c4.mono ?_; rintro e w4 ⟨rfl, rfl⟩)
            | (go_at_call 44; refine c5.mono ?_; rintro e w5 ⟨rfl, rfl⟩)
            | (go_at_call 29; refine (cM _).mono ?_; rintro e w6 ⟨rfl, hb⟩; clear c1 c2 c3 c4 c5 x1 x2 x3 x4 x5 f1 f2 f3 f4 f5 g0 g1 g2 g3 g4 o0 o1 o2 o3 o4 s0 s1 s2 s3 s4 r1 r2; replace bo := bo.below hb; replace bs := bs.below hb; replace br := br.below hb; replace hB := Below.tr hB hb; clear hb
               have g0 := bo.2 0 (by simp)
               have g1 := bo.2 1 (by simp)
               have g2 := bo.2 2 (by simp)
               have g3 := bo.2 3 (by simp)
               have g4 := bo.2 4 (by simp)
               have o0 := bo.1 0 _ rfl
               have o1 := bo.1 1 _ rfl
               have o2 := bo.1 2 _ rfl
               have o3 := bo.1 3 _ rfl
               have o4 := bo.1 4 _ rfl
               have s0 := bs.1 0 _ rfl
               have s1 := bs.1 1 _ rfl
               have s2 := bs.1 2 _ rfl
               have s3 := bs.1 3 _ rfl
               have s4 := bs.1 4 _ rfl
               have r1 := br.1 1 _ rfl
               have r2 := br.1 2 _ rfl))
        have zz := boxL_set5 bo (.int .i64 0) (.int .i64 0) (.int .i64 0) (.int .i64 0) (.string ⟨#[]⟩)
        have z0 := zz.1 0 _ rfl
        have z1 := zz.1 1 _ rfl
        have z2 := zz.1 2 _ rfl
        have z3 := zz.1 3 _ rfl
        have z4 := zz.1 4 _ rfl
        exact bodyPost_ret (v := .tuple #[.agg #[.int .i64 0, .int .i64 0, .int .i64 0, .int .i64 0, .string ⟨#[]⟩], .int .i64 4]) (by simp [results, Try.results28, go_sem, z0, z1, z2, z3, z4]) rfl ⟨rfl, below_setT hB (Nat.le_refl _) _ _ _ _ _⟩
    · have hP' : (P != (s.size : Int)) = true := by simpa using hP
      rw [if_neg (fun hh => hP hh.1)] at e1 e2
      subst e1 e2
      clear hP
      go_enter Try.func28, Try.ntmps28
      go_wp2_with
        (first
          | (have _t := t1; go_at_call 43; rw [← hW]; refine c1.mono ?_; clear t1 _t; rintro e w1 ⟨rfl, rfl⟩; clear hW)
          | (have _t := t2; go_at_call 43; refine c2.mono ?_; clear t2 _t; rintro e w2 ⟨rfl, rfl⟩)
          | (have _t := t3; go_at_call 43; refine c3.mono ?_; clear t3 _t; rintro e w3 ⟨rfl, rfl⟩)
          | (go_at_call 43; refine c4.mono ?_; rintro e w4 ⟨rfl, rfl⟩)
          | (go_at_call 44; refine c5.mono ?_; rintro e w5 ⟨rfl, rfl⟩)
          | (go_at_call 29; refine (cM _).mono ?_; rintro e w6 ⟨rfl, hb⟩; clear c1 c2 c3 c4 c5 x1 x2 x3 x4 x5 f1 f2 f3 f4 f5 g0 g1 g2 g3 g4 o0 o1 o2 o3 o4 s0 s1 s2 s3 s4 r1 r2; replace bo := bo.below hb; replace bs := bs.below hb; replace br := br.below hb; replace hB := Below.tr hB hb; clear hb
             have g0 := bo.2 0 (by simp)
             have g1 := bo.2 1 (by simp)
             have g2 := bo.2 2 (by simp)
             have g3 := bo.2 3 (by simp)
             have g4 := bo.2 4 (by simp)
             have o0 := bo.1 0 _ rfl
             have o1 := bo.1 1 _ rfl
             have o2 := bo.1 2 _ rfl
             have o3 := bo.1 3 _ rfl
             have o4 := bo.1 4 _ rfl
             have s0 := bs.1 0 _ rfl
             have s1 := bs.1 1 _ rfl
             have s2 := bs.1 2 _ rfl
             have s3 := bs.1 3 _ rfl
             have s4 := bs.1 4 _ rfl
             have r1 := br.1 1 _ rfl
             have r2 := br.1 2 _ rfl))
      have zz := boxL_set5 bo (.int .i64 0) (.int .i64 0) (.int .i64 0) (.int .i64 0) (.string ⟨#[]⟩)
      have z0 := zz.1 0 _ rfl
      have z1 := zz.1 1 _ rfl
      have z2 := zz.1 2 _ rfl
      have z3 := zz.1 3 _ rfl
      have z4 := zz.1 4 _ rfl
      exact bodyPost_ret (v := .tuple #[.agg #[.int .i64 0, .int .i64 0, .int .i64 0, .int .i64 0, .string ⟨#[]⟩], .int .i64 4]) (by simp [results, Try.results28, go_sem, z0, z1, z2, z3, z4]) rfl ⟨rfl, below_setT hB (Nat.le_refl _) _ _ _ _ _⟩
  · obtain ⟨e1, e2⟩ := HBad.out h0
    rw [e1, e2]
    have h0' : (E != 0) = true := by simpa using h0
    clear HX HG HBad e1 e2 h0
    go_enter Try.func28, Try.ntmps28
    go_wp2_with
      (first
        | (have _t := t1; go_at_call 43; rw [← hW]; refine c1.mono ?_; clear t1 _t; rintro e w1 ⟨rfl, rfl⟩; clear hW)
        | (have _t := t2; go_at_call 43; refine c2.mono ?_; clear t2 _t; rintro e w2 ⟨rfl, rfl⟩)
        | (have _t := t3; go_at_call 43; refine c3.mono ?_; clear t3 _t; rintro e w3 ⟨rfl, rfl⟩)
        | (go_at_call 43; refine c4.mono ?_; rintro e w4 ⟨rfl, rfl⟩)
        | (go_at_call 44; refine c5.mono ?_; rintro e w5 ⟨rfl, rfl⟩)
        | (go_at_call 29; refine (cM _).mono ?_; rintro e w6 ⟨rfl, hb⟩; clear c1 c2 c3 c4 c5 x1 x2 x3 x4 x5 f1 f2 f3 f4 f5 g0 g1 g2 g3 g4 o0 o1 o2 o3 o4 s0 s1 s2 s3 s4 r1 r2; replace bo := bo.below hb; replace bs := bs.below hb; replace br := br.below hb; replace hB := Below.tr hB hb; clear hb
           have g0 := bo.2 0 (by simp)
           have g1 := bo.2 1 (by simp)
           have g2 := bo.2 2 (by simp)
           have g3 := bo.2 3 (by simp)
           have g4 := bo.2 4 (by simp)
           have o0 := bo.1 0 _ rfl
           have o1 := bo.1 1 _ rfl
           have o2 := bo.1 2 _ rfl
           have o3 := bo.1 3 _ rfl
           have o4 := bo.1 4 _ rfl
           have s0 := bs.1 0 _ rfl
           have s1 := bs.1 1 _ rfl
           have s2 := bs.1 2 _ rfl
           have s3 := bs.1 3 _ rfl
           have s4 := bs.1 4 _ rfl
           have r1 := br.1 1 _ rfl
           have r2 := br.1 2 _ rfl))
    clear c1 c2 c3 c4 c5 x1 x2 x3 x4 x5 f1 f2 f3 f4 f5 g0 g1 g2 g3 g4 o0 o1 o2 o3 o4 s0 s1 s2 s3 s4 r1 r2
    generalize World.setCell _ _ _ = Z at *
    have g0 := bo.2 0 (by simp)
    have g1 := bo.2 1 (by simp)
    have g2 := bo.2 2 (by simp)
    have g3 := bo.2 3 (by simp)
    have g4 := bo.2 4 (by simp)
    have o0 := bo.1 0 _ rfl
    have o1 := bo.1 1 _ rfl
    have o2 := bo.1 2 _ rfl
    have o3 := bo.1 3 _ rfl
    have o4 := bo.1 4 _ rfl
    have s0 := bs.1 0 _ rfl
    have s1 := bs.1 1 _ rfl
    have s2 := bs.1 2 _ rfl
    have s3 := bs.1 3 _ rfl
    have s4 := bs.1 4 _ rfl
    have r1 := br.1 1 _ rfl
    have r2 := br.1 2 _ rfl
    go_region
    go_wp2
    have zz := boxL_set5 bo (.int .i64 0) (.int .i64 0) (.int .i64 0) (.int .i64 0) (.string ⟨#[]⟩)
    have z0 := zz.1 0 _ rfl
    have z1 := zz.1 1 _ rfl
    have z2 := zz.1 2 _ rfl
    have z3 := zz.1 3 _ rfl
    have z4 := zz.1 4 _ rfl
    exact bodyPost_ret (v := .tuple #[.agg #[.int .i64 0, .int .i64 0, .int .i64 0, .int .i64 0, .string ⟨#[]⟩], .int .i64 E]) (by simp [results, Try.results28, go_sem, z0, z1, z2, z3, z4]) rfl ⟨rfl, (below_setT hB (Nat.le_refl _) _ _ _ _ _).drew⟩

end Go.Proofs.Ytnipikdlfmcheaa

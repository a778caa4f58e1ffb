/-
  The program's own Get of nodes.
-/
import Derived.Test.YtmhnnfmggdohkaaNodeGet
namespace Go.Proofs.Ytmhnnfmggdohkaa
open Go.RowKit Plain Anylast
set_option linter.unusedVariables false

/-- What is read: the error, and the node; nothing where there is an error. -/
def gE (kind : Int) (s : ByteArray) : Int := match nodeR kind s with | .inl e => e | .inr _ => 0
def gN (kind : Int) (s : ByteArray) : Bool × List ByteArray × List ByteArray × List Int := match nodeR kind s with | .inl _ => (false, [], [], []) | .inr x => x

theorem g_inl {kind e : Int} {s : ByteArray} (h : nodeR kind s = .inl e) : gE kind s = e ∧ gN kind s = (false, [], [], []) := by unfold gE gN; rw [h]; exact ⟨rfl, rfl⟩
theorem g_inr {kind : Int} {s : ByteArray} {x : Bool × List ByteArray × List ByteArray × List Int} (h : nodeR kind s = .inr x) : gE kind s = 0 ∧ gN kind s = x := by unfold gE gN; rw [h]; exact ⟨rfl, rfl⟩

/-- A node that is answered, with an error. -/
def Answers (w : World) (x : Ending) (w' : World) (l : Bool) (ks vs : List ByteArray) (cs : List Int) (E : Int) : Prop :=
  ∃ n a d n' a' d' n'' a'' d'', x = .returned (.tuple #[.agg #[.bool l, .slice a n d, .slice a' n' d', .slice a'' n'' d''], .int .i64 E]) ∧ n = ks.length ∧ n' = vs.length ∧ n'' = cs.length ∧
    IsS w' a d ks ∧ IsS w' a' d' vs ∧ IsI w' a'' d'' cs ∧ From w.heap.size a ∧ From w.heap.size a' ∧ From w.heap.size a'' ∧ Below w.heap.size w w'

theorem answers_none {w w' : World} {E : Int} (hb : Below w.heap.size w w') : Answers w (.returned (.tuple #[.agg #[.bool false, .slice none 0 0, .slice none 0 0, .slice none 0 0], .int .i64 E])) w' false [] [] [] E :=
  ⟨0, none, 0, 0, none, 0, 0, none, 0, rfl, rfl, rfl, rfl, isS_nil _, isS_nil _, isI_nil _, from_nil _, from_nil _, from_nil _, hb⟩

set_option maxRecDepth 20000 in
set_option maxHeartbeats 4000000 in
theorem nodeGet_core (kind : Int) (s : ByteArray) (w : World) (hs : s.size ≤ maxLen) (hk : kind = 1 ∨ kind = 2) (l : Bool) (ks vs : List ByteArray) (cs : List Int) (P E : Int)
    (cN : ∀ V r, Box3 V r (.string s) (.int .i64 0) (.int .i64 0) → Calls Try.prog 34 #[.pointer (some ⟨r, 0, none⟩), .int .i64 kind] V fun x w' => ∃ n a d n' a' d' n'' a'' d'', x = .returned (.agg #[.bool l, .slice a n d, .slice a' n' d', .slice a'' n'' d'']) ∧ n = ks.length ∧ n' = vs.length ∧ n'' = cs.length ∧
      IsS w' a d ks ∧ IsS w' a' d' vs ∧ IsI w' a'' d'' cs ∧ From V.heap.size a ∧ From V.heap.size a' ∧ From V.heap.size a'' ∧ Box3 w' r (.string s) (.int .i64 P) (.int .i64 E) ∧ Turns (fun k => k = r) V w') :
    Calls Try.prog 15 #[.int .i64 kind, .string s] w fun x w' => if E = 0 then (if P = s.size ∧ rightN l ks vs cs true = true then Answers w x w' l ks vs cs 0 else Answers w x w' false [] [] [] 4) else Answers w x w' false [] [] [] E := by
  obtain ⟨W, hW⟩ : ∃ W, W = (w.alloc (.cells #[.bool false, .slice none 0 0, .slice none 0 0, .slice none 0 0] 25)).alloc (.cells #[.string s, .int .i64 0, .int .i64 0] 55) := ⟨_, rfl⟩
  have b0 : Box4 W w.heap.size (.bool false) (.slice none 0 0) (.slice none 0 0) (.slice none 0 0) := by rw [hW]; exact (box4_new _ _ _ _ _ _ rfl).alloc _
  have bR : Box3 W (w.heap.size + 1) (.string s) (.int .i64 0) (.int .i64 0) := by
    rw [hW]
    have := box3_new (w.alloc (.cells #[.bool false, .slice none 0 0, .slice none 0 0, .slice none 0 0] 25)) (.string s) (.int .i64 0) (.int .i64 0) 55
    simpa using this
  have hB0 : Below w.heap.size w W := by rw [hW]; exact ((Below.refl _ _).alloc (Nat.le_refl _) _).alloc (by simp) _
  have hz : w.heap.size + 2 ≤ W.heap.size := by rw [hW]; simp
  replace cN := cN W (w.heap.size + 1) bR
  have hm : s.size ≤ 9223372036854775807 := hs
  clear bR hs
  have hle : w.heap.size ≤ w.heap.size := Nat.le_refl _
  by_cases hE : E = 0
  · subst hE
    simp only [if_true]
    by_cases hP : P = s.size
    · subst hP
      have hP' : ((s.size : Int) != s.size) = false := by simp
      have cR : ∀ V a d a' d' a'' d'', IsS V a d ks → IsS V a' d' vs → IsI V a'' d'' cs → Calls Try.prog 13 #[.agg #[.bool l, .slice a ks.length d, .slice a' vs.length d', .slice a'' cs.length d''], .bool true] V fun e w' => e = .returned (.bool (rightN l ks vs cs true)) ∧ Below V.heap.size V w' := fun V a d a' d' a'' d'' h1 h2 h3 => nodeRight_any _ _ _ _ _ _ _ _ _ _ _ _ _ true _ rfl rfl rfl h1 h2 h3
      cases hr : rightN l ks vs cs true with
      | true =>
        rw [hr] at cR
        simp only [and_self, if_true]
        clear hr
        rcases hk with rfl | rfl
        · go_enter Try.func15, Try.ntmps15
          go_wp2_with (first
            | (go_at_call 34; rw [← hW]; refine cN.mono ?_; rintro y w2 ⟨n, a, d, n', a', d', n'', a'', d'', rfl, rfl, rfl, rfl, i1, i2, i3, j1, j2, j3, b2, t2⟩; have b02 := b0.turns t2 (by omega); obtain ⟨⟨p0, p1, p2⟩, -⟩ := id b2; have p1' := cell_alloc p1; have p2' := cell_alloc p2; have zz := fun o => b02.alloc o; have z0 := fun o => (zz o).1.1; have z1 := fun o => (zz o).1.2.1; have z2 := fun o => (zz o).1.2.2.1; have z3 := fun o => (zz o).1.2.2.2; have y0 := fun o => (zz o).2.1; have y1 := fun o => (zz o).2.2.1; have y2 := fun o => (zz o).2.2.2.1; have y3 := fun o => (zz o).2.2.2.2; have B2 : Hid (Below w.heap.size w w2) := Below.turns hB0 t2 (fun k hk => by omega); have I1 : Hid (IsS w2 a d ks) := i1; have I2 : Hid (IsS w2 a' d' vs) := i2; have I3 : Hid (IsI w2 a'' d'' cs) := i3; have J1 : Hid (From W.heap.size a) := j1; have J2 : Hid (From W.heap.size a') := j2; have J3 : Hid (From W.heap.size a'') := j3; have hz2 : Hid (W.heap.size ≤ w2.heap.size) := t2.size; clear i1 i2 i3 j1 j2 j3 b2 t2 p0 p1 p2 zz b02)
            | (go_at_call 13; have hA2 : Below w2.heap.size w2 (w2.alloc (.cells #[.bool l, .slice a ks.length d, .slice a' vs.length d', .slice a'' cs.length d''] 25)) := (Below.refl _ _).alloc (Nat.le_refl _) _; refine (cR _ a d a' d' a'' d'' (I1.out.below hA2) (I2.out.below hA2) (I3.out.below hA2)).mono ?_; rintro y w3 ⟨rfl, hb⟩; have b7 := (box4_new w2 (.bool l) (.slice a ks.length d) (.slice a' vs.length d') (.slice a'' cs.length d'') 25 rfl).below hb; have bO := (Box4.below (h := w.heap.size) (v0 := .bool false) (v1 := .slice none 0 0) (v2 := .slice none 0 0) (v3 := .slice none 0 0) ⟨⟨z0 _, z1 _, z2 _, z3 _⟩, y0 _, y1 _, y2 _, y3 _⟩ hb); have B3 : Hid (Below w.heap.size w w3) := Below.tr (Below.tr B2.out hA2) hb; replace I1 : Hid (IsS w3 a d ks) := (I1.out.below hA2).below hb; replace I2 : Hid (IsS w3 a' d' vs) := (I2.out.below hA2).below hb; replace I3 : Hid (IsI w3 a'' d'' cs) := (I3.out.below hA2).below hb; clear hb hA2 z0 z1 z2 z3 y0 y1 y2 y3 p1' p2'; obtain ⟨⟨m0, m1, m2, m3⟩, -⟩ := b7; obtain ⟨⟨r0, r1, r2, r3⟩, g0, g1, g2, g3⟩ := bO))
          have T4 := turns_put4 w3 w.heap.size (.bool l) (.slice a ks.length d) (.slice a' vs.length d') (.slice a'' cs.length d'')
          refine bodyPost_ret (v := .tuple #[.agg #[.bool l, .slice a ks.length d, .slice a' vs.length d', .slice a'' cs.length d''], .int .i64 0]) (by simp [results, Try.results15, go_sem, r0, r1, r2, r3]) rfl ⟨_, a, d, _, a', d', _, a'', d'', rfl, rfl, rfl, rfl, I1.out.turns T4 (fun x hx e => by have := J1.out x hx; omega), I2.out.turns T4 (fun x hx e => by have := J2.out x hx; omega), I3.out.turns T4 (fun x hx e => by have := J3.out x hx; omega), J1.out.mono (by omega), J2.out.mono (by omega), J3.out.mono (by omega), Below.turns B3.out T4 (fun k hk => by omega)⟩
        · go_enter Try.func15, Try.ntmps15
          go_wp2_with (first
            | (go_at_call 34; rw [← hW]; refine cN.mono ?_; rintro y w2 ⟨n, a, d, n', a', d', n'', a'', d'', rfl, rfl, rfl, rfl, i1, i2, i3, j1, j2, j3, b2, t2⟩; have b02 := b0.turns t2 (by omega); obtain ⟨⟨p0, p1, p2⟩, -⟩ := id b2; have p1' := cell_alloc p1; have p2' := cell_alloc p2; have zz := fun o => b02.alloc o; have z0 := fun o => (zz o).1.1; have z1 := fun o => (zz o).1.2.1; have z2 := fun o => (zz o).1.2.2.1; have z3 := fun o => (zz o).1.2.2.2; have y0 := fun o => (zz o).2.1; have y1 := fun o => (zz o).2.2.1; have y2 := fun o => (zz o).2.2.2.1; have y3 := fun o => (zz o).2.2.2.2; have B2 : Hid (Below w.heap.size w w2) := Below.turns hB0 t2 (fun k hk => by omega); have I1 : Hid (IsS w2 a d ks) := i1; have I2 : Hid (IsS w2 a' d' vs) := i2; have I3 : Hid (IsI w2 a'' d'' cs) := i3; have J1 : Hid (From W.heap.size a) := j1; have J2 : Hid (From W.heap.size a') := j2; have J3 : Hid (From W.heap.size a'') := j3; have hz2 : Hid (W.heap.size ≤ w2.heap.size) := t2.size; clear i1 i2 i3 j1 j2 j3 b2 t2 p0 p1 p2 zz b02)
            | (go_at_call 13; have hA2 : Below w2.heap.size w2 (w2.alloc (.cells #[.bool l, .slice a ks.length d, .slice a' vs.length d', .slice a'' cs.length d''] 25)) := (Below.refl _ _).alloc (Nat.le_refl _) _; refine (cR _ a d a' d' a'' d'' (I1.out.below hA2) (I2.out.below hA2) (I3.out.below hA2)).mono ?_; rintro y w3 ⟨rfl, hb⟩; have b7 := (box4_new w2 (.bool l) (.slice a ks.length d) (.slice a' vs.length d') (.slice a'' cs.length d'') 25 rfl).below hb; have bO := (Box4.below (h := w.heap.size) (v0 := .bool false) (v1 := .slice none 0 0) (v2 := .slice none 0 0) (v3 := .slice none 0 0) ⟨⟨z0 _, z1 _, z2 _, z3 _⟩, y0 _, y1 _, y2 _, y3 _⟩ hb); have B3 : Hid (Below w.heap.size w w3) := Below.tr (Below.tr B2.out hA2) hb; replace I1 : Hid (IsS w3 a d ks) := (I1.out.below hA2).below hb; replace I2 : Hid (IsS w3 a' d' vs) := (I2.out.below hA2).below hb; replace I3 : Hid (IsI w3 a'' d'' cs) := (I3.out.below hA2).below hb; clear hb hA2 z0 z1 z2 z3 y0 y1 y2 y3 p1' p2'; obtain ⟨⟨m0, m1, m2, m3⟩, -⟩ := b7; obtain ⟨⟨r0, r1, r2, r3⟩, g0, g1, g2, g3⟩ := bO))
          have T4 := turns_put4 w3 w.heap.size (.bool l) (.slice a ks.length d) (.slice a' vs.length d') (.slice a'' cs.length d'')
          refine bodyPost_ret (v := .tuple #[.agg #[.bool l, .slice a ks.length d, .slice a' vs.length d', .slice a'' cs.length d''], .int .i64 0]) (by simp [results, Try.results15, go_sem, r0, r1, r2, r3]) rfl ⟨_, a, d, _, a', d', _, a'', d'', rfl, rfl, rfl, rfl, I1.out.turns T4 (fun x hx e => by have := J1.out x hx; omega), I2.out.turns T4 (fun x hx e => by have := J2.out x hx; omega), I3.out.turns T4 (fun x hx e => by have := J3.out x hx; omega), J1.out.mono (by omega), J2.out.mono (by omega), J3.out.mono (by omega), Below.turns B3.out T4 (fun k hk => by omega)⟩
      | false =>
        rw [hr] at cR
        simp only [and_false, if_false, Bool.false_eq_true]
        clear hr
        rcases hk with rfl | rfl
        · go_enter Try.func15, Try.ntmps15
          go_wp2_with (first
            | (go_at_call 34; rw [← hW]; refine cN.mono ?_; rintro y w2 ⟨n, a, d, n', a', d', n'', a'', d'', rfl, rfl, rfl, rfl, i1, i2, i3, j1, j2, j3, b2, t2⟩; have b02 := b0.turns t2 (by omega); obtain ⟨⟨p0, p1, p2⟩, -⟩ := id b2; have p1' := cell_alloc p1; have p2' := cell_alloc p2; have zz := fun o => b02.alloc o; have z0 := fun o => (zz o).1.1; have z1 := fun o => (zz o).1.2.1; have z2 := fun o => (zz o).1.2.2.1; have z3 := fun o => (zz o).1.2.2.2; have y0 := fun o => (zz o).2.1; have y1 := fun o => (zz o).2.2.1; have y2 := fun o => (zz o).2.2.2.1; have y3 := fun o => (zz o).2.2.2.2; have B2 : Hid (Below w.heap.size w w2) := Below.turns hB0 t2 (fun k hk => by omega); have I1 : Hid (IsS w2 a d ks) := i1; have I2 : Hid (IsS w2 a' d' vs) := i2; have I3 : Hid (IsI w2 a'' d'' cs) := i3; have J1 : Hid (From W.heap.size a) := j1; have J2 : Hid (From W.heap.size a') := j2; have J3 : Hid (From W.heap.size a'') := j3; have hz2 : Hid (W.heap.size ≤ w2.heap.size) := t2.size; clear i1 i2 i3 j1 j2 j3 b2 t2 p0 p1 p2 zz b02)
            | (go_at_call 13; have hA2 : Below w2.heap.size w2 (w2.alloc (.cells #[.bool l, .slice a ks.length d, .slice a' vs.length d', .slice a'' cs.length d''] 25)) := (Below.refl _ _).alloc (Nat.le_refl _) _; refine (cR _ a d a' d' a'' d'' (I1.out.below hA2) (I2.out.below hA2) (I3.out.below hA2)).mono ?_; rintro y w3 ⟨rfl, hb⟩; have b7 := (box4_new w2 (.bool l) (.slice a ks.length d) (.slice a' vs.length d') (.slice a'' cs.length d'') 25 rfl).below hb; have bO := (Box4.below (h := w.heap.size) (v0 := .bool false) (v1 := .slice none 0 0) (v2 := .slice none 0 0) (v3 := .slice none 0 0) ⟨⟨z0 _, z1 _, z2 _, z3 _⟩, y0 _, y1 _, y2 _, y3 _⟩ hb); have B3 : Hid (Below w.heap.size w w3) := Below.tr (Below.tr B2.out hA2) hb; replace I1 : Hid (IsS w3 a d ks) := (I1.out.below hA2).below hb; replace I2 : Hid (IsS w3 a' d' vs) := (I2.out.below hA2).below hb; replace I3 : Hid (IsI w3 a'' d'' cs) := (I3.out.below hA2).below hb; clear hb hA2 z0 z1 z2 z3 y0 y1 y2 y3 p1' p2'; obtain ⟨⟨m0, m1, m2, m3⟩, -⟩ := b7; obtain ⟨⟨r0, r1, r2, r3⟩, g0, g1, g2, g3⟩ := bO))
          have T4 := turns_put4 w3 w.heap.size (.bool false) (.slice none 0 0) (.slice none 0 0) (.slice none 0 0)
          refine bodyPost_ret (v := .tuple #[.agg #[.bool false, .slice none 0 0, .slice none 0 0, .slice none 0 0], .int .i64 4]) (by simp [results, Try.results15, go_sem, r0, r1, r2, r3]) rfl (answers_none (Below.turns B3.out T4 (fun k hk => by omega)))
        · go_enter Try.func15, Try.ntmps15
          go_wp2_with (first
            | (go_at_call 34; rw [← hW]; refine cN.mono ?_; rintro y w2 ⟨n, a, d, n', a', d', n'', a'', d'', rfl, rfl, rfl, rfl, i1, i2, i3, j1, j2, j3, b2, t2⟩; have b02 := b0.turns t2 (by omega); obtain ⟨⟨p0, p1, p2⟩, -⟩ := id b2; have p1' := cell_alloc p1; have p2' := cell_alloc p2; have zz := fun o => b02.alloc o; have z0 := fun o => (zz o).1.1; have z1 := fun o => (zz o).1.2.1; have z2 := fun o => (zz o).1.2.2.1; have z3 := fun o => (zz o).1.2.2.2; have y0 := fun o => (zz o).2.1; have y1 := fun o => (zz o).2.2.1; have y2 := fun o => (zz o).2.2.2.1; have y3 := fun o => (zz o).2.2.2.2; have B2 : Hid (Below w.heap.size w w2) := Below.turns hB0 t2 (fun k hk => by omega); have I1 : Hid (IsS w2 a d ks) := i1; have I2 : Hid (IsS w2 a' d' vs) := i2; have I3 : Hid (IsI w2 a'' d'' cs) := i3; have J1 : Hid (From W.heap.size a) := j1; have J2 : Hid (From W.heap.size a') := j2; have J3 : Hid (From W.heap.size a'') := j3; have hz2 : Hid (W.heap.size ≤ w2.heap.size) := t2.size; clear i1 i2 i3 j1 j2 j3 b2 t2 p0 p1 p2 zz b02)
            | (go_at_call 13; have hA2 : Below w2.heap.size w2 (w2.alloc (.cells #[.bool l, .slice a ks.length d, .slice a' vs.length d', .slice a'' cs.length d''] 25)) := (Below.refl _ _).alloc (Nat.le_refl _) _; refine (cR _ a d a' d' a'' d'' (I1.out.below hA2) (I2.out.below hA2) (I3.out.below hA2)).mono ?_; rintro y w3 ⟨rfl, hb⟩; have b7 := (box4_new w2 (.bool l) (.slice a ks.length d) (.slice a' vs.length d') (.slice a'' cs.length d'') 25 rfl).below hb; have bO := (Box4.below (h := w.heap.size) (v0 := .bool false) (v1 := .slice none 0 0) (v2 := .slice none 0 0) (v3 := .slice none 0 0) ⟨⟨z0 _, z1 _, z2 _, z3 _⟩, y0 _, y1 _, y2 _, y3 _⟩ hb); have B3 : Hid (Below w.heap.size w w3) := Below.tr (Below.tr B2.out hA2) hb; replace I1 : Hid (IsS w3 a d ks) := (I1.out.below hA2).below hb; replace I2 : Hid (IsS w3 a' d' vs) := (I2.out.below hA2).below hb; replace I3 : Hid (IsI w3 a'' d'' cs) := (I3.out.below hA2).below hb; clear hb hA2 z0 z1 z2 z3 y0 y1 y2 y3 p1' p2'; obtain ⟨⟨m0, m1, m2, m3⟩, -⟩ := b7; obtain ⟨⟨r0, r1, r2, r3⟩, g0, g1, g2, g3⟩ := bO))
          have T4 := turns_put4 w3 w.heap.size (.bool false) (.slice none 0 0) (.slice none 0 0) (.slice none 0 0)
          refine bodyPost_ret (v := .tuple #[.agg #[.bool false, .slice none 0 0, .slice none 0 0, .slice none 0 0], .int .i64 4]) (by simp [results, Try.results15, go_sem, r0, r1, r2, r3]) rfl (answers_none (Below.turns B3.out T4 (fun k hk => by omega)))
    · have hP' : (P != (s.size : Int)) = true := by simpa using hP
      simp only [hP, false_and, if_false]
      rcases hk with rfl | rfl
      · go_enter Try.func15, Try.ntmps15
        go_wp2_with (first
          | (go_at_call 34; rw [← hW]; refine cN.mono ?_; rintro y w2 ⟨n, a, d, n', a', d', n'', a'', d'', rfl, rfl, rfl, rfl, i1, i2, i3, j1, j2, j3, b2, t2⟩; have b02 := b0.turns t2 (by omega); obtain ⟨⟨p0, p1, p2⟩, -⟩ := id b2; have p1' := cell_alloc p1; have p2' := cell_alloc p2; have zz := fun o => b02.alloc o; have z0 := fun o => (zz o).1.1; have z1 := fun o => (zz o).1.2.1; have z2 := fun o => (zz o).1.2.2.1; have z3 := fun o => (zz o).1.2.2.2; have y0 := fun o => (zz o).2.1; have y1 := fun o => (zz o).2.2.1; have y2 := fun o => (zz o).2.2.2.1; have y3 := fun o => (zz o).2.2.2.2; have B2 : Hid (Below w.heap.size w w2) := Below.turns hB0 t2 (fun k hk => by omega); have I1 : Hid (IsS w2 a d ks) := i1; have I2 : Hid (IsS w2 a' d' vs) := i2; have I3 : Hid (IsI w2 a'' d'' cs) := i3; have J1 : Hid (From W.heap.size a) := j1; have J2 : Hid (From W.heap.size a') := j2; have J3 : Hid (From W.heap.size a'') := j3; have hz2 : Hid (W.heap.size ≤ w2.heap.size) := t2.size; clear i1 i2 i3 j1 j2 j3 b2 t2 p0 p1 p2 zz b02))
        have hA2 : Below w2.heap.size w2 (w2.alloc (.cells #[.bool l, .slice a ks.length d, .slice a' vs.length d', .slice a'' cs.length d''] 25)) := (Below.refl _ _).alloc (Nat.le_refl _) _
        have T4 := turns_put4 (w2.alloc (.cells #[.bool l, .slice a ks.length d, .slice a' vs.length d', .slice a'' cs.length d''] 25)) w.heap.size (.bool false) (.slice none 0 0) (.slice none 0 0) (.slice none 0 0)
        refine bodyPost_ret (v := .tuple #[.agg #[.bool false, .slice none 0 0, .slice none 0 0, .slice none 0 0], .int .i64 4]) (by simp [results, Try.results15, go_sem, z0, z1, z2, z3]) rfl (answers_none (Below.turns (Below.tr B2.out hA2) T4 (fun k hk => by omega)))
      · go_enter Try.func15, Try.ntmps15
        go_wp2_with (first
          | (go_at_call 34; rw [← hW]; refine cN.mono ?_; rintro y w2 ⟨n, a, d, n', a', d', n'', a'', d'', rfl, rfl, rfl, rfl, i1, i2, i3, j1, j2, j3, b2, t2⟩; have b02 := b0.turns t2 (by omega); obtain ⟨⟨p0, p1, p2⟩, -⟩ := id b2; have p1' := cell_alloc p1; have p2' := cell_alloc p2; have zz := fun o => b02.alloc o; have z0 := fun o => (zz o).1.1; have z1 := fun o => (zz o).1.2.1; have z2 := fun o => (zz o).1.2.2.1; have z3 := fun o => (zz o).1.2.2.2; have y0 := fun o => (zz o).2.1; have y1 := fun o => (zz o).2.2.1; have y2 := fun o => (zz o).2.2.2.1; have y3 := fun o => (zz o).2.2.2.2; have B2 : Hid (Below w.heap.size w w2) := Below.turns hB0 t2 (fun k hk => by omega); have I1 : Hid (IsS w2 a d ks) := i1; have I2 : Hid (IsS w2 a' d' vs) := i2; have I3 : Hid (IsI w2 a'' d'' cs) := i3; have J1 : Hid (From W.heap.size a) := j1; have J2 : Hid (From W.heap.size a') := j2; have J3 : Hid (From W.heap.size a'') := j3; have hz2 : Hid (W.heap.size ≤ w2.heap.size) := t2.size; clear i1 i2 i3 j1 j2 j3 b2 t2 p0 p1 p2 zz b02))
        have hA2 : Below w2.heap.size w2 (w2.alloc (.cells #[.bool l, .slice a ks.length d, .slice a' vs.length d', .slice a'' cs.length d''] 25)) := (Below.refl _ _).alloc (Nat.le_refl _) _
        have T4 := turns_put4 (w2.alloc (.cells #[.bool l, .slice a ks.length d, .slice a' vs.length d', .slice a'' cs.length d''] 25)) w.heap.size (.bool false) (.slice none 0 0) (.slice none 0 0) (.slice none 0 0)
        refine bodyPost_ret (v := .tuple #[.agg #[.bool false, .slice none 0 0, .slice none 0 0, .slice none 0 0], .int .i64 4]) (by simp [results, Try.results15, go_sem, z0, z1, z2, z3]) rfl (answers_none (Below.turns (Below.tr B2.out hA2) T4 (fun k hk => by omega)))
  · have hE' : (E != 0) = true := by simpa using hE
    simp only [hE, if_false]
    rcases hk with rfl | rfl
    · go_enter Try.func15, Try.ntmps15
      go_wp2_with (first
        | (go_at_call 34; rw [← hW]; refine cN.mono ?_; rintro y w2 ⟨n, a, d, n', a', d', n'', a'', d'', rfl, rfl, rfl, rfl, i1, i2, i3, j1, j2, j3, b2, t2⟩; have b02 := b0.turns t2 (by omega); obtain ⟨⟨p0, p1, p2⟩, -⟩ := id b2; have p1' := cell_alloc p1; have p2' := cell_alloc p2; have zz := fun o => b02.alloc o; have z0 := fun o => (zz o).1.1; have z1 := fun o => (zz o).1.2.1; have z2 := fun o => (zz o).1.2.2.1; have z3 := fun o => (zz o).1.2.2.2; have y0 := fun o => (zz o).2.1; have y1 := fun o => (zz o).2.2.1; have y2 := fun o => (zz o).2.2.2.1; have y3 := fun o => (zz o).2.2.2.2; have B2 : Hid (Below w.heap.size w w2) := Below.turns hB0 t2 (fun k hk => by omega); have I1 : Hid (IsS w2 a d ks) := i1; have I2 : Hid (IsS w2 a' d' vs) := i2; have I3 : Hid (IsI w2 a'' d'' cs) := i3; have J1 : Hid (From W.heap.size a) := j1; have J2 : Hid (From W.heap.size a') := j2; have J3 : Hid (From W.heap.size a'') := j3; have hz2 : Hid (W.heap.size ≤ w2.heap.size) := t2.size; clear i1 i2 i3 j1 j2 j3 b2 t2 p0 p1 p2 zz b02))
      go_region
      go_wp2
      have hA2 : Below w2.heap.size w2 (w2.alloc (.cells #[.bool l, .slice a ks.length d, .slice a' vs.length d', .slice a'' cs.length d''] 25)) := (Below.refl _ _).alloc (Nat.le_refl _) _
      have T4 := turns_put4 (w2.alloc (.cells #[.bool l, .slice a ks.length d, .slice a' vs.length d', .slice a'' cs.length d''] 25)) w.heap.size (.bool false) (.slice none 0 0) (.slice none 0 0) (.slice none 0 0)
      refine bodyPost_ret (v := .tuple #[.agg #[.bool false, .slice none 0 0, .slice none 0 0, .slice none 0 0], .int .i64 E]) (by simp [results, Try.results15, go_sem, z0, z1, z2, z3]) rfl (answers_none (Below.turns (Below.tr B2.out hA2) T4 (fun k hk => by omega)).drew)
    · go_enter Try.func15, Try.ntmps15
      go_wp2_with (first
        | (go_at_call 34; rw [← hW]; refine cN.mono ?_; rintro y w2 ⟨n, a, d, n', a', d', n'', a'', d'', rfl, rfl, rfl, rfl, i1, i2, i3, j1, j2, j3, b2, t2⟩; have b02 := b0.turns t2 (by omega); obtain ⟨⟨p0, p1, p2⟩, -⟩ := id b2; have p1' := cell_alloc p1; have p2' := cell_alloc p2; have zz := fun o => b02.alloc o; have z0 := fun o => (zz o).1.1; have z1 := fun o => (zz o).1.2.1; have z2 := fun o => (zz o).1.2.2.1; have z3 := fun o => (zz o).1.2.2.2; have y0 := fun o => (zz o).2.1; have y1 := fun o => (zz o).2.2.1; have y2 := fun o => (zz o).2.2.2.1; have y3 := fun o => (zz o).2.2.2.2; have B2 : Hid (Below w.heap.size w w2) := Below.turns hB0 t2 (fun k hk => by omega); have I1 : Hid (IsS w2 a d ks) := i1; have I2 : Hid (IsS w2 a' d' vs) := i2; have I3 : Hid (IsI w2 a'' d'' cs) := i3; have J1 : Hid (From W.heap.size a) := j1; have J2 : Hid (From W.heap.size a') := j2; have J3 : Hid (From W.heap.size a'') := j3; have hz2 : Hid (W.heap.size ≤ w2.heap.size) := t2.size; clear i1 i2 i3 j1 j2 j3 b2 t2 p0 p1 p2 zz b02))
      go_region
      go_wp2
      have hA2 : Below w2.heap.size w2 (w2.alloc (.cells #[.bool l, .slice a ks.length d, .slice a' vs.length d', .slice a'' cs.length d''] 25)) := (Below.refl _ _).alloc (Nat.le_refl _) _
      have T4 := turns_put4 (w2.alloc (.cells #[.bool l, .slice a ks.length d, .slice a' vs.length d', .slice a'' cs.length d''] 25)) w.heap.size (.bool false) (.slice none 0 0) (.slice none 0 0) (.slice none 0 0)
      refine bodyPost_ret (v := .tuple #[.agg #[.bool false, .slice none 0 0, .slice none 0 0, .slice none 0 0], .int .i64 E]) (by simp [results, Try.results15, go_sem, z0, z1, z2, z3]) rfl (answers_none (Below.turns (Below.tr B2.out hA2) T4 (fun k hk => by omega)).drew)

set_option maxHeartbeats 1000000 in
theorem nodeGet_kind (kind : Int) (s : ByteArray) (w : World) (h1 : kind ≠ 1) (h2 : kind ≠ 2) :
    Calls Try.prog 15 #[.int .i64 kind, .string s] w fun x w' => Answers w x w' false [] [] [] 81 := by
  have k1 : (kind != 1) = true := by simpa using h1
  have k2 : (kind != 2) = true := by simpa using h2
  have b0 := box4_new w (.bool false) (.slice none 0 0) (.slice none 0 0) (.slice none 0 0) 25 rfl
  have hB0 : Below w.heap.size w (w.alloc (.cells #[.bool false, .slice none 0 0, .slice none 0 0, .slice none 0 0] 25)) := (Below.refl _ _).alloc (Nat.le_refl _) _
  have hle : w.heap.size ≤ w.heap.size := Nat.le_refl _
  obtain ⟨⟨z0, z1, z2, z3⟩, y0, y1, y2, y3⟩ := id b0
  go_enter Try.func15, Try.ntmps15
  go_wp2
  refine bodyPost_ret (v := .tuple #[.agg #[.bool false, .slice none 0 0, .slice none 0 0, .slice none 0 0], .int .i64 81]) (by simp [results, Try.results15, go_sem, z0, z1, z2, z3]) rfl (answers_none ?_)
  exact hB0

/-- GET, at all kinds and texts. -/
theorem nodeGet_any (kind : Int) (s : ByteArray) (w : World) (hs : s.size ≤ maxLen) :
    Calls Try.prog 15 #[.int .i64 kind, .string s] w fun x w' => Answers w x w' (gN kind s).1 (gN kind s).2.1 (gN kind s).2.2.1 (gN kind s).2.2.2 (gE kind s) := by
  by_cases h1 : kind = 1
  · have hR : nodeR kind s = leafR s := by unfold nodeR; rw [if_pos h1]
    rw [leafR_end] at hR
    refine (nodeGet_core kind s w hs (.inl h1) true (endL s).ks (endL s).vs [] (endL s).p (endL s).e (fun V r b => by rw [h1]; exact rnodeL_any r s V b hs)).mono fun x w' h => ?_
    by_cases e0 : (endL s).e = 0
    · rw [if_pos e0] at h hR
      by_cases e1 : (endL s).p = s.size ∧ rightN true (endL s).ks (endL s).vs [] true = true
      · rw [if_pos e1] at h hR
        obtain ⟨g1, g2⟩ := g_inr hR
        rw [g1, g2]; exact h
      · rw [if_neg e1] at h hR
        obtain ⟨g1, g2⟩ := g_inl hR
        rw [g1, g2]; exact h
    · rw [if_neg e0] at h hR
      obtain ⟨g1, g2⟩ := g_inl hR
      rw [g1, g2]; exact h
  · by_cases h2 : kind = 2
    · have hR : nodeR kind s = innR s := by unfold nodeR; rw [if_neg h1, if_pos h2]
      rw [innR_end] at hR
      refine (nodeGet_core kind s w hs (.inr h2) false (endI s).ks [] (endI s).cs (endI s).p (endI s).e (fun V r b => by rw [h2]; exact rnodeI_any r s V b hs)).mono fun x w' h => ?_
      by_cases e0 : (endI s).e = 0
      · rw [if_pos e0] at h hR
        by_cases e1 : (endI s).p = s.size ∧ rightN false (endI s).ks [] (endI s).cs true = true
        · rw [if_pos e1] at h hR
          obtain ⟨g1, g2⟩ := g_inr hR
          rw [g1, g2]; exact h
        · rw [if_neg e1] at h hR
          obtain ⟨g1, g2⟩ := g_inl hR
          rw [g1, g2]; exact h
      · rw [if_neg e0] at h hR
        obtain ⟨g1, g2⟩ := g_inl hR
        rw [g1, g2]; exact h
    · have hR : nodeR kind s = .inl 81 := by unfold nodeR; rw [if_neg h1, if_neg h2]
      obtain ⟨g1, g2⟩ := g_inl hR
      rw [g1, g2]
      exact nodeGet_kind kind s w h1 h2

end Go.Proofs.Ytmhnnfmggdohkaa

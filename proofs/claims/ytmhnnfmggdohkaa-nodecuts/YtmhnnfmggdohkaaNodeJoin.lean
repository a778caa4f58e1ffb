/-
  The program's own Join of nodes.
-/
import Derived.Test.YtmhnnfmggdohkaaNodePart
import Derived.Test.YtmhnnfmggdohkaaNodePut
import Derived.Test.YtmhnnfmggdohkaaNodeGetB
import Derived.Test.YtmhnnfmggdohkaaNodeCut
import Derived.Test.YtmhnnfmggdohkaaAnyorder
namespace Go.Proofs.Ytmhnnfmggdohkaa
open Go.RowKit Plain Anylast
set_option linter.unusedVariables false

/-- A row of two rows, just laid, and what is joined of it. -/
def TwoS (B : Nat) (r1 r2 : Value) (v : Value) (w : World) : Prop := ∃ g, v = .slice (some ⟨g, 0, none⟩) 2 2 ∧ B ≤ g ∧ w.cell? ⟨g, 0, none⟩ = some r1 ∧ w.cell? ⟨g, 1, none⟩ = some r2
def GotS (B n : Nat) (xs : List ByteArray) (v : Value) (w : World) : Prop := ∃ p q, v = .slice p n q ∧ IsS w p q xs ∧ From B p
def GotI (B n : Nat) (xs : List Int) (v : Value) (w : World) : Prop := ∃ p q, v = .slice p n q ∧ IsI w p q xs ∧ From B p

theorem TwoS.turns {B h : Nat} {r1 r2 v : Value} {w w' : World} (hs : TwoS B r1 r2 v w) (hh : h < B) (t : Turns (fun k => k = h) w w') : TwoS B r1 r2 v w' := by
  obtain ⟨g, h1, h2, h3, h4⟩ := hs
  exact ⟨g, h1, h2, t.cell (p := ⟨g, 0, none⟩) (by show ¬ g = h; omega) h3, t.cell (p := ⟨g, 1, none⟩) (by show ¬ g = h; omega) h4⟩

theorem GotS.turns {B n h : Nat} {xs : List ByteArray} {v : Value} {w w' : World} (hs : GotS B n xs v w) (hh : h < B) (t : Turns (fun k => k = h) w w') : GotS B n xs v w' := by
  obtain ⟨p, q, h1, h2, h3⟩ := hs
  exact ⟨p, q, h1, h2.turns t (fun x hx e => by have := h3 x hx; omega), h3⟩

theorem GotI.turns {B n h : Nat} {xs : List Int} {v : Value} {w w' : World} (hs : GotI B n xs v w) (hh : h < B) (t : Turns (fun k => k = h) w w') : GotI B n xs v w' := by
  obtain ⟨p, q, h1, h2, h3⟩ := hs
  exact ⟨p, q, h1, h2.turns t (fun x hx e => by have := h3 x hx; omega), h3⟩

/-- What the operations of Join's line for leaves yield. -/
def leafV (h3 h5 B n n' : Nat) (r1 r2 s1 s2 : Value) (xs ys : List ByteArray) (i : Nat) (v : Value) (w : World) : Prop :=
  match i with
  | 0 => v = .pointer (some ⟨h3, 1, none⟩)
  | 1 => v = r1
  | 2 => v = .pointer (some ⟨h5, 1, none⟩)
  | 3 => v = r2
  | 4 => TwoS B r1 r2 v w
  | 5 => GotS B n xs v w
  | 6 => v = .pointer (some ⟨h3, 2, none⟩)
  | 7 => v = s1
  | 8 => v = .pointer (some ⟨h5, 2, none⟩)
  | 9 => v = s2
  | 10 => TwoS B s1 s2 v w
  | 11 => GotS B n' ys v w
  | 12 => ∃ u u', v = .agg #[.bool true, u, u', .slice none 0 0] ∧ GotS B n xs u w ∧ GotS B n' ys u' w
  | _ => True

/-- The node behind it. -/
def LeafT (h8 B n n' : Nat) (xs ys : List ByteArray) (W w : World) : Prop :=
  ∃ u u', Box4 w h8 (.bool true) u u' (.slice none 0 0) ∧ GotS B n xs u w ∧ GotS B n' ys u' w ∧ Turns (fun k => k = h8) W w

theorem leafV_mono {h3 h5 B n n' h : Nat} {r1 r2 s1 s2 : Value} {xs ys : List ByteArray} (hh : h < B) (i : Nat) (v : Value) (w w' : World) (t : Turns (fun k => k = h) w w') (hv : leafV h3 h5 B n n' r1 r2 s1 s2 xs ys i v w) : leafV h3 h5 B n n' r1 r2 s1 s2 xs ys i v w' := by
  unfold leafV at hv ⊢
  split at hv <;> first
    | exact hv
    | exact hv.turns hh t
    | (obtain ⟨u, u', h1, h2, h3⟩ := hv; exact ⟨u, u', h1, h2.turns hh t, h3.turns hh t⟩)

/-- A store of such a region. -/
theorem op_skip {P : Program} {ops : Array Oper} {Q : Exit → Act → World → Prop} {i : Nat} {o : Oper} {a : Act} {w w' : World} {V : Nat → Value → World → Prop} {S : World → Prop} {R : World → World → Prop} (hi : ops[i]? = some o) (hw : Region.wanted o (yielded ops a.tmps) = true) (hd : o.dst = none)
    (hr : (execOp a.eval o).run P w = .ok .skip w') (hV : V i undef w') (hS : S w') (hR : R w w') :
    wpOp P ops Q i (fun a' w' => ∃ v, a' = a.put o.dst v ∧ V i v w' ∧ S w' ∧ R w w') a w := by
  unfold wpOp
  simp only [hi, hw, if_true]
  refine .inl ?_
  unfold Oper.wp
  rw [hr]
  refine ⟨undef, ?_, hV, hS, hR⟩
  rw [hd]

set_option maxRecDepth 20000 in
set_option maxHeartbeats 4000000 in
/-- JOIN, of leaves that may stand. -/
theorem joinLeaf_any (a a' a'' e e' e'' : Option Addr) (c c' c'' f f' f'' n n' n'' m m' m'' : Nat) (ks vs ks2 vs2 : List ByteArray) (cs cs2 : List Int) (key : ByteArray) (w : World)
    (hn : n = ks.length) (hn' : n' = vs.length) (hn'' : n'' = cs.length) (hK : IsS w a c ks) (hV : IsS w a' c' vs) (hC : IsI w a'' c'' cs)
    (hm : m = ks2.length) (hm' : m' = vs2.length) (hm'' : m'' = cs2.length) (hK2 : IsS w e f ks2) (hV2 : IsS w e' f' vs2) (hC2 : IsI w e'' f'' cs2)
    (hs : standsN true ks vs cs = true) (hs2 : standsN true ks2 vs2 cs2 = true) :
    Calls Try.prog 22 #[.agg #[.bool true, .slice a n c, .slice a' n' c', .slice a'' n'' c''], .string key, .agg #[.bool true, .slice e m f, .slice e' m' f', .slice e'' m'' f'']] w fun x w' => if standsN true (ks ++ ks2) (vs ++ vs2) [] = true then Answers w x w' true (ks ++ ks2) (vs ++ vs2) [] 0 else Answers w x w' false [] [] [] 1 := by
  obtain ⟨W, hW⟩ : ∃ W, W = ((w.alloc (.cells #[.bool true, .slice a n c, .slice a' n' c', .slice a'' n'' c''] 25)).alloc (.cells #[.bool true, .slice e m f, .slice e' m' f', .slice e'' m'' f''] 25)).alloc (.cells #[.bool false, .slice none 0 0, .slice none 0 0, .slice none 0 0] 25) := ⟨_, rfl⟩
  have A3 : Box4 W w.heap.size (.bool true) (.slice a n c) (.slice a' n' c') (.slice a'' n'' c'') := by rw [hW]; exact ((box4_new _ _ _ _ _ _ rfl).alloc _).alloc _
  have A5 : Box4 W (w.heap.size + 1) (.bool true) (.slice e m f) (.slice e' m' f') (.slice e'' m'' f'') := by rw [hW]; exact (box4_new _ _ _ _ _ _ (by simp)).alloc _
  have A6 : Box4 W (w.heap.size + 2) (.bool false) (.slice none 0 0) (.slice none 0 0) (.slice none 0 0) := by rw [hW]; exact box4_new _ _ _ _ _ _ (by simp)
  have HB : Below w.heap.size w W := by rw [hW]; exact (((Below.refl _ _).alloc (Nat.le_refl _) _).alloc (by simp) _).alloc (by simp; omega) _
  have c1 : ∀ V, Below w.heap.size w V → Calls Try.prog 31 #[.agg #[.bool true, .slice a n c, .slice a' n' c', .slice a'' n'' c'']] V fun e w' => e = .returned (.bool true) ∧ Below V.heap.size V w' := fun V h => by have := mayStand_any true a a' a'' c c' c'' n n' n'' ks vs cs V hn hn' hn'' (hK.below h) (hV.below h) (hC.below h); rw [hs] at this; exact this
  have c2 : ∀ V, Below w.heap.size w V → Calls Try.prog 31 #[.agg #[.bool true, .slice e m f, .slice e' m' f', .slice e'' m'' f'']] V fun e w' => e = .returned (.bool true) ∧ Below V.heap.size V w' := fun V h => by have := mayStand_any true e e' e'' f f' f'' m m' m'' ks2 vs2 cs2 V hm hm' hm'' (hK2.below h) (hV2.below h) (hC2.below h); rw [hs2] at this; exact this
  have b9 : n ≤ 9 := by rw [hn]; exact (standsN_iff.1 hs).1
  have b9' : n' ≤ 9 := by rw [hn', (leaf_one_eq hs).2, ← hn]; exact b9
  have d9 : m ≤ 9 := by rw [hm]; exact (standsN_iff.1 hs2).1
  have d9' : m' ≤ 9 := by rw [hm', (leaf_one_eq hs2).2, ← hm]; exact d9
  have cJ : ∀ V g, Below w.heap.size w V → V.cell? ⟨g, 0, none⟩ = some (.slice a n c) → V.cell? ⟨g, 1, none⟩ = some (.slice e m f) → Calls Try.prog 39 #[.slice (some ⟨g, 0, none⟩) 2 2] V fun x w' => ∃ p q, x = .returned (.slice p (n + m) q) ∧ IsS w' p q (ks ++ ks2) ∧ From V.heap.size p ∧ Below V.heap.size V w' := fun V g h h1 h2 => by
    have hf : flatS [(a, c, ks), (e, f, ks2)] = ks ++ ks2 := by simp [flatS]
    have := joinedS_any g 2 (n + m) [(a, c, ks), (e, f, ks2)] V (by
      intro i r hr
      match i, hr with
      | 0, hr => cases hr; exact ⟨by rw [← hn]; exact h1, hK.below h⟩
      | 1, hr => cases hr; exact ⟨by rw [← hm]; exact h2, hK2.below h⟩) rfl (by rw [hf, List.length_append]; omega) (by omega) (by rw [hf, List.length_append, hn, hm])
    rw [hf] at this
    exact this
  have cJ' : ∀ V g, Below w.heap.size w V → V.cell? ⟨g, 0, none⟩ = some (.slice a' n' c') → V.cell? ⟨g, 1, none⟩ = some (.slice e' m' f') → Calls Try.prog 39 #[.slice (some ⟨g, 0, none⟩) 2 2] V fun x w' => ∃ p q, x = .returned (.slice p (n' + m') q) ∧ IsS w' p q (vs ++ vs2) ∧ From V.heap.size p ∧ Below V.heap.size V w' := fun V g h h1 h2 => by
    have hf : flatS [(a', c', vs), (e', f', vs2)] = vs ++ vs2 := by simp [flatS]
    have := joinedS_any g 2 (n' + m') [(a', c', vs), (e', f', vs2)] V (by
      intro i r hr
      match i, hr with
      | 0, hr => cases hr; exact ⟨by rw [← hn']; exact h1, hV.below h⟩
      | 1, hr => cases hr; exact ⟨by rw [← hm']; exact h2, hV2.below h⟩) rfl (by rw [hf, List.length_append]; omega) (by omega) (by rw [hf, List.length_append, hn', hm'])
    rw [hf] at this
    exact this
  have c3 : ∀ V p q p' q', IsS V p q (ks ++ ks2) → IsS V p' q' (vs ++ vs2) → Calls Try.prog 31 #[.agg #[.bool true, .slice p (n + m) q, .slice p' (n' + m') q', .slice none 0 0]] V fun e w' => e = .returned (.bool (standsN true (ks ++ ks2) (vs ++ vs2) [])) ∧ Below V.heap.size V w' := fun V p q p' q' h1 h2 => mayStand_any true p p' none q q' 0 (n + m) (n' + m') 0 _ _ [] V (by rw [List.length_append, hn, hm]) (by rw [List.length_append, hn', hm']) rfl h1 h2 (isI_nil _)
  have E1 : Hid (n + m = (ks ++ ks2).length) := by show _ = _; rw [List.length_append, hn, hm]
  have E2 : Hid (n' + m' = (vs ++ vs2).length) := by show _ = _; rw [List.length_append, hn', hm']
  clear hn hn' hn'' hm hm' hm'' hK hV hC hK2 hV2 hC2 hs hs2 b9 b9' d9 d9'
  generalize ks ++ ks2 = XS at *
  generalize vs ++ vs2 = YS at *
  have tok1 : True := trivial
  have tok2 : True := trivial
  obtain ⟨⟨q0, q1, q2, q3⟩, -⟩ := id A3
  obtain ⟨⟨p0, p1, p2, p3⟩, -⟩ := id A5
  have hle : w.heap.size ≤ w.heap.size + 2 := by omega
  have e0 : (true != true) = false := rfl
  cases hst : standsN true XS YS [] with
  | true =>
    rw [hst] at c3
    simp only [if_true]
    clear hst
    go_enter Try.func22, Try.ntmps22
    go_wp2_with (first
      | (go_at_call 31; have _t := tok1; rw [← hW]; refine (c1 _ HB).mono ?_; rintro y w1 ⟨rfl, hb⟩; replace HB := Below.tr HB hb; replace A3 := A3.below hb; replace A5 := A5.below hb; replace A6 := A6.below hb; clear q0 q1 q2 q3 p0 p1 p2 p3; obtain ⟨⟨q0, q1, q2, q3⟩, -⟩ := id A3; obtain ⟨⟨p0, p1, p2, p3⟩, -⟩ := id A5; clear hb tok1 _t)
      | (go_at_call 31; have _t := tok2; refine (c2 _ HB).mono ?_; rintro y w2 ⟨rfl, hb⟩; replace HB := Below.tr HB hb; replace A3 := A3.below hb; replace A5 := A5.below hb; replace A6 := A6.below hb; clear q0 q1 q2 q3 p0 p1 p2 p3; obtain ⟨⟨q0, q1, q2, q3⟩, -⟩ := id A3; obtain ⟨⟨p0, p1, p2, p3⟩, -⟩ := id A5; have Q0 := fun o => cell_alloc q0 o; clear hb tok2 _t))
    have A8 : Box4 (w2.alloc (.cells #[.bool false, .slice none 0 0, .slice none 0 0, .slice none 0 0] 25)) w2.heap.size (.bool false) (.slice none 0 0) (.slice none 0 0) (.slice none 0 0) := box4_new _ _ _ _ _ _ rfl
    obtain ⟨V0, hV0⟩ : ∃ V, V = (w2.alloc (.cells #[.bool false, .slice none 0 0, .slice none 0 0, .slice none 0 0] 25)).drew := ⟨_, rfl⟩
    have hA : Below w2.heap.size w2 V0 := by rw [hV0]; exact ((Below.refl _ _).alloc (Nat.le_refl _) _).drew
    replace A8 : Box4 V0 w2.heap.size (.bool false) (.slice none 0 0) (.slice none 0 0) (.slice none 0 0) := by rw [hV0]; exact A8.drew
    replace A3 := A3.below hA
    replace A5 := A5.below hA
    have h6lt : w.heap.size + 2 < w2.heap.size := A6.lt
    replace A6 := A6.below hA
    replace HB := Below.tr HB hA
    have h8B : w2.heap.size < V0.heap.size := A8.lt
    clear q0 q1 q2 q3 p0 p1 p2 p3 Q0
    generalize w2.heap.size = h8 at *
    refine region_last (by kernel_rfl) 13 (leafV w.heap.size (w.heap.size + 1) V0.heap.size (n + m) (n' + m') (.slice a n c) (.slice e m f) (.slice a' n' c') (.slice e' m' f') XS YS) (fun u => Below V0.heap.size V0 u) (LeafT h8 V0.heap.size (n + m) (n' + m') XS YS V0) (fun u u' => Turns (fun k => k = h8) u u') (by kernel_rfl) (by kernel_rfl) (fun i v u u' t hv => leafV_mono h8B i v u u' t hv) (by rw [← hV0]; exact Below.refl _ _) ?step ?done
    case step =>
      intro i o ho ac u hS hdf hsz hdep hsame
      have B3 := A3.below hS
      have B5 := A5.below hS
      have B8 := A8.below hS
      have hsz0 : V0.heap.size ≤ u.heap.size := hS.size
      have HU : Hid (Below w.heap.size w u) := Below.tr HB hS
      obtain ⟨⟨q0, q1, q2, q3⟩, -⟩ := id B3
      obtain ⟨⟨p0, p1, p2, p3⟩, -⟩ := id B5
      obtain ⟨⟨r0, r1, r2, r3⟩, g0, g1, g2, g3⟩ := id B8
      match i, ho with
      | 0, ho =>
        cases ho
        have h3 := hsame 3 rfl
        exact op_value rfl (wanted_free rfl) (by clear hdep hsame hsz hdf; go_simp) rfl (by rw [if_neg (by decide)]; exact hS) (Turns.refl _ _)
      | 1, ho =>
        cases ho
        obtain ⟨_, h27, rfl⟩ := hdep 0 _ 27 rfl rfl rfl
        exact op_value rfl (wanted_free rfl) (by clear hdep hsame hsz hdf; go_simp) rfl (by rw [if_neg (by decide)]; exact hS) (Turns.refl _ _)
      | 2, ho =>
        cases ho
        have h5 := hsame 5 rfl
        exact op_value rfl (wanted_free rfl) (by clear hdep hsame hsz hdf; go_simp) rfl (by rw [if_neg (by decide)]; exact hS) (Turns.refl _ _)
      | 3, ho =>
        cases ho
        obtain ⟨_, h29, rfl⟩ := hdep 2 _ 29 rfl rfl rfl
        exact op_value rfl (wanted_free rfl) (by clear hdep hsame hsz hdf; go_simp) rfl (by rw [if_neg (by decide)]; exact hS) (Turns.refl _ _)
      | 4, ho =>
        cases ho
        obtain ⟨_, h28, rfl⟩ := hdep 1 _ 28 rfl rfl rfl
        obtain ⟨_, h30, rfl⟩ := hdep 3 _ 30 rfl rfl rfl
        exact op_value (v := .slice (some ⟨u.heap.size, 0, none⟩) 2 2) (w' := u.alloc (.cells #[.slice a n c, .slice e m f] 22)) rfl (wanted_free rfl) (by clear hdep hsame hsz hdf; go_simp) ⟨u.heap.size, rfl, hsz0, World.cell?_alloc_at _ _ _ _ rfl, World.cell?_alloc_at _ _ _ _ rfl⟩ (by rw [if_neg (by decide)]; exact hS.alloc hsz0 _) ((Turns.refl _ _).alloc _)
      | 5, ho =>
        cases ho
        obtain ⟨_, h31, g, rfl, hg, k0, k1⟩ := hdep 4 _ 31 rfl rfl rfl
        refine op_call (w' := u) rfl (wanted_free rfl) (by clear hdep hsame hsz hdf; go_simp) ((cJ u g HU.out k0 k1).mono ?_)
        rintro y u' ⟨p, q, rfl, i1, j1, hb⟩
        exact ⟨_, rfl, ⟨p, q, rfl, i1, j1.mono hsz0⟩, by rw [if_neg (by decide)]; exact hS.trans (hb.mono hsz0), Turns.of_below hb⟩
      | 6, ho =>
        cases ho
        have h3 := hsame 3 rfl
        exact op_value rfl (wanted_free rfl) (by clear hdep hsame hsz hdf; go_simp) rfl (by rw [if_neg (by decide)]; exact hS) (Turns.refl _ _)
      | 7, ho =>
        cases ho
        obtain ⟨_, h33, rfl⟩ := hdep 6 _ 33 rfl rfl rfl
        exact op_value rfl (wanted_free rfl) (by clear hdep hsame hsz hdf; go_simp) rfl (by rw [if_neg (by decide)]; exact hS) (Turns.refl _ _)
      | 8, ho =>
        cases ho
        have h5 := hsame 5 rfl
        exact op_value rfl (wanted_free rfl) (by clear hdep hsame hsz hdf; go_simp) rfl (by rw [if_neg (by decide)]; exact hS) (Turns.refl _ _)
      | 9, ho =>
        cases ho
        obtain ⟨_, h35, rfl⟩ := hdep 8 _ 35 rfl rfl rfl
        exact op_value rfl (wanted_free rfl) (by clear hdep hsame hsz hdf; go_simp) rfl (by rw [if_neg (by decide)]; exact hS) (Turns.refl _ _)
      | 10, ho =>
        cases ho
        obtain ⟨_, h34, rfl⟩ := hdep 7 _ 34 rfl rfl rfl
        obtain ⟨_, h36, rfl⟩ := hdep 9 _ 36 rfl rfl rfl
        exact op_value (v := .slice (some ⟨u.heap.size, 0, none⟩) 2 2) (w' := u.alloc (.cells #[.slice a' n' c', .slice e' m' f'] 22)) rfl (wanted_free rfl) (by clear hdep hsame hsz hdf; go_simp) ⟨u.heap.size, rfl, hsz0, World.cell?_alloc_at _ _ _ _ rfl, World.cell?_alloc_at _ _ _ _ rfl⟩ (by rw [if_neg (by decide)]; exact hS.alloc hsz0 _) ((Turns.refl _ _).alloc _)
      | 11, ho =>
        cases ho
        obtain ⟨_, h37, g, rfl, hg, k0, k1⟩ := hdep 10 _ 37 rfl rfl rfl
        refine op_call (w' := u) rfl (wanted_free rfl) (by clear hdep hsame hsz hdf; go_simp) ((cJ' u g HU.out k0 k1).mono ?_)
        rintro y u' ⟨p, q, rfl, i1, j1, hb⟩
        exact ⟨_, rfl, ⟨p, q, rfl, i1, j1.mono hsz0⟩, by rw [if_neg (by decide)]; exact hS.trans (hb.mono hsz0), Turns.of_below hb⟩
      | 12, ho =>
        cases ho
        obtain ⟨_, h32, G1⟩ := hdep 5 _ 32 rfl rfl rfl
        obtain ⟨_, h38, G2⟩ := hdep 11 _ 38 rfl rfl rfl
        obtain ⟨x1, y1, rfl, i1, j1⟩ := id G1
        obtain ⟨x2, y2, rfl, i2, j2⟩ := id G2
        exact op_value (v := .agg #[.bool true, .slice x1 (n + m) y1, .slice x2 (n' + m') y2, .slice none 0 0]) rfl (wanted_free rfl) (by clear hdep hsame hsz hdf G1 G2 i1 i2 j1 j2; go_simp) ⟨_, _, rfl, G1, G2⟩ (by rw [if_neg (by decide)]; exact hS) (Turns.refl _ _)
      | 13, ho =>
        cases ho
        have hp8 := hsame 8 rfl
        obtain ⟨_, h39, u1, u2, rfl, G1, G2⟩ := hdep 12 _ 39 rfl rfl rfl
        obtain ⟨x1, y1, rfl, i1, j1⟩ := id G1
        obtain ⟨x2, y2, rfl, i2, j2⟩ := id G2
        have T4 := turns_put4 u h8 (.bool true) (.slice x1 (n + m) y1) (.slice x2 (n' + m') y2) (.slice none 0 0)
        have HT : LeafT h8 V0.heap.size (n + m) (n' + m') XS YS V0 ((((u.setCell ⟨h8, 0, none⟩ (.bool true)).setCell ⟨h8, 1, none⟩ (.slice x1 (n + m) y1)).setCell ⟨h8, 2, none⟩ (.slice x2 (n' + m') y2)).setCell ⟨h8, 3, none⟩ (.slice none 0 0)) := ⟨_, _, B8.put _ _ _ _, G1.turns h8B T4, G2.turns h8B T4, (Turns.of_below hS).trans T4⟩
        exact op_skip rfl (wanted_free rfl) rfl (by clear hdep hsame hsz hdf G1 G2 i1 i2 j1 j2 T4 HT; go_simp) trivial (by rw [if_pos rfl]; exact HT) T4
      | k + 14, ho => simp at ho
    case done =>
      intro ac W3 hT hdf hsz hsame hval
      obtain ⟨v27, h27, hv27⟩ := hval 0 _ 27 rfl rfl
      obtain ⟨v28, h28, hv28⟩ := hval 1 _ 28 rfl rfl
      obtain ⟨v29, h29, hv29⟩ := hval 2 _ 29 rfl rfl
      obtain ⟨v30, h30, hv30⟩ := hval 3 _ 30 rfl rfl
      obtain ⟨v31, h31, hv31⟩ := hval 4 _ 31 rfl rfl
      obtain ⟨v32, h32, hv32⟩ := hval 5 _ 32 rfl rfl
      obtain ⟨v33, h33, hv33⟩ := hval 6 _ 33 rfl rfl
      obtain ⟨v34, h34, hv34⟩ := hval 7 _ 34 rfl rfl
      obtain ⟨v35, h35, hv35⟩ := hval 8 _ 35 rfl rfl
      obtain ⟨v36, h36, hv36⟩ := hval 9 _ 36 rfl rfl
      obtain ⟨v37, h37, hv37⟩ := hval 10 _ 37 rfl rfl
      obtain ⟨v38, h38, hv38⟩ := hval 11 _ 38 rfl rfl
      obtain ⟨v39, h39, hv39⟩ := hval 12 _ 39 rfl rfl
      obtain rfl := Anyorder.frame_is (l := [_, _, _, _, _, _, _, _, _, _, _, _, _, _, _, _, _, _, _, _, _, _, _, _, _, _, _, _, _, _, _, _, _, _, _, _, _, _, _, _, _, _, _, _, _, _, _, _, _, _, _, _, _, _, _, _, _, _, _, _]) ⟨(hsame 0 (Anyorder.unwritten (by kernel_rfl))).trans rfl, (hsame 1 (Anyorder.unwritten (by kernel_rfl))).trans rfl, (hsame 2 (Anyorder.unwritten (by kernel_rfl))).trans rfl, (hsame 3 (Anyorder.unwritten (by kernel_rfl))).trans rfl, (hsame 4 (Anyorder.unwritten (by kernel_rfl))).trans rfl, (hsame 5 (Anyorder.unwritten (by kernel_rfl))).trans rfl, (hsame 6 (Anyorder.unwritten (by kernel_rfl))).trans rfl, (hsame 7 (Anyorder.unwritten (by kernel_rfl))).trans rfl, (hsame 8 (Anyorder.unwritten (by kernel_rfl))).trans rfl, (hsame 9 (Anyorder.unwritten (by kernel_rfl))).trans rfl, (hsame 10 (Anyorder.unwritten (by kernel_rfl))).trans rfl, (hsame 11 (Anyorder.unwritten (by kernel_rfl))).trans rfl, (hsame 12 (Anyorder.unwritten (by kernel_rfl))).trans rfl, (hsame 13 (Anyorder.unwritten (by kernel_rfl))).trans rfl, (hsame 14 (Anyorder.unwritten (by kernel_rfl))).trans rfl, (hsame 15 (Anyorder.unwritten (by kernel_rfl))).trans rfl, (hsame 16 (Anyorder.unwritten (by kernel_rfl))).trans rfl, (hsame 17 (Anyorder.unwritten (by kernel_rfl))).trans rfl, (hsame 18 (Anyorder.unwritten (by kernel_rfl))).trans rfl, (hsame 19 (Anyorder.unwritten (by kernel_rfl))).trans rfl, (hsame 20 (Anyorder.unwritten (by kernel_rfl))).trans rfl, (hsame 21 (Anyorder.unwritten (by kernel_rfl))).trans rfl, (hsame 22 (Anyorder.unwritten (by kernel_rfl))).trans rfl, (hsame 23 (Anyorder.unwritten (by kernel_rfl))).trans rfl, (hsame 24 (Anyorder.unwritten (by kernel_rfl))).trans rfl, (hsame 25 (Anyorder.unwritten (by kernel_rfl))).trans rfl, (hsame 26 (Anyorder.unwritten (by kernel_rfl))).trans rfl, h27, h28, h29, h30, h31, h32, h33, h34, h35, h36, h37, h38, h39, (hsame 40 (Anyorder.unwritten (by kernel_rfl))).trans rfl, (hsame 41 (Anyorder.unwritten (by kernel_rfl))).trans rfl, (hsame 42 (Anyorder.unwritten (by kernel_rfl))).trans rfl, (hsame 43 (Anyorder.unwritten (by kernel_rfl))).trans rfl, (hsame 44 (Anyorder.unwritten (by kernel_rfl))).trans rfl, (hsame 45 (Anyorder.unwritten (by kernel_rfl))).trans rfl, (hsame 46 (Anyorder.unwritten (by kernel_rfl))).trans rfl, (hsame 47 (Anyorder.unwritten (by kernel_rfl))).trans rfl, (hsame 48 (Anyorder.unwritten (by kernel_rfl))).trans rfl, (hsame 49 (Anyorder.unwritten (by kernel_rfl))).trans rfl, (hsame 50 (Anyorder.unwritten (by kernel_rfl))).trans rfl, (hsame 51 (Anyorder.unwritten (by kernel_rfl))).trans rfl, (hsame 52 (Anyorder.unwritten (by kernel_rfl))).trans rfl, (hsame 53 (Anyorder.unwritten (by kernel_rfl))).trans rfl, (hsame 54 (Anyorder.unwritten (by kernel_rfl))).trans rfl, (hsame 55 (Anyorder.unwritten (by kernel_rfl))).trans rfl, (hsame 56 (Anyorder.unwritten (by kernel_rfl))).trans rfl, (hsame 57 (Anyorder.unwritten (by kernel_rfl))).trans rfl, (hsame 58 (Anyorder.unwritten (by kernel_rfl))).trans rfl, (hsame 59 (Anyorder.unwritten (by kernel_rfl))).trans rfl, trivial⟩ hdf hsz
      obtain ⟨u1, u2, X8, ⟨x1, y1, rfl, i1, j1⟩, ⟨x2, y2, rfl, i2, j2⟩, T3⟩ := hT
      have I1 : Hid (IsS W3 x1 y1 XS) := i1
      have I2 : Hid (IsS W3 x2 y2 YS) := i2
      have J1 : Hid (From V0.heap.size x1) := j1
      have J2 : Hid (From V0.heap.size x2) := j2
      have B3 : Hid (Below w.heap.size w W3) := Below.turns HB T3 (fun k hk => by omega)
      have X6 := A6.turns T3 (by omega)
      have c4 := c3 W3 x1 y1 x2 y2 i1 i2
      obtain ⟨⟨q0, q1, q2, q3⟩, -⟩ := id X8
      clear hval hsame hsz hdf i1 i2 j1 j2 A3 A5 A6 A8 HB hV0 hA T3
      go_wp2_with (go_at_call 31; refine c4.mono ?_; rintro y w5 ⟨rfl, hb⟩; replace X8 := X8.below hb; replace X6 := X6.below hb; replace B3 : Hid (Below w.heap.size w w5) := Below.tr B3.out hb; replace I1 : Hid (IsS w5 x1 y1 XS) := I1.out.below hb; replace I2 : Hid (IsS w5 x2 y2 YS) := I2.out.below hb; clear q0 q1 q2 q3; obtain ⟨⟨q0, q1, q2, q3⟩, -⟩ := id X8; obtain ⟨⟨r0, r1, r2, r3⟩, g0, g1, g2, g3⟩ := id X6; clear hb)
      have T4 := turns_put4 w5 (w.heap.size + 2) (.bool true) (.slice x1 (n + m) y1) (.slice x2 (n' + m') y2) (.slice none 0 0)
      exact bodyPost_ret (v := .tuple #[.agg #[.bool true, .slice x1 (n + m) y1, .slice x2 (n' + m') y2, .slice none 0 0], .int .i64 0]) (by simp [results, Try.results22, go_sem, r0, r1, r2, r3]) rfl ⟨_, x1, y1, _, x2, y2, 0, none, 0, rfl, E1.out, E2.out, rfl, I1.out.turns T4 (fun x hx e => by have := J1.out x hx; omega), I2.out.turns T4 (fun x hx e => by have := J2.out x hx; omega), isI_nil _, J1.out.mono (by omega), J2.out.mono (by omega), from_nil _, Below.turns B3.out T4 (fun k hk => by omega)⟩
  | false =>
    rw [hst] at c3
    simp only [Bool.false_eq_true, if_false]
    clear hst
    go_enter Try.func22, Try.ntmps22
    go_wp2_with (first
      | (go_at_call 31; have _t := tok1; rw [← hW]; refine (c1 _ HB).mono ?_; rintro y w1 ⟨rfl, hb⟩; replace HB := Below.tr HB hb; replace A3 := A3.below hb; replace A5 := A5.below hb; replace A6 := A6.below hb; clear q0 q1 q2 q3 p0 p1 p2 p3; obtain ⟨⟨q0, q1, q2, q3⟩, -⟩ := id A3; obtain ⟨⟨p0, p1, p2, p3⟩, -⟩ := id A5; clear hb tok1 _t)
      | (go_at_call 31; have _t := tok2; refine (c2 _ HB).mono ?_; rintro y w2 ⟨rfl, hb⟩; replace HB := Below.tr HB hb; replace A3 := A3.below hb; replace A5 := A5.below hb; replace A6 := A6.below hb; clear q0 q1 q2 q3 p0 p1 p2 p3; obtain ⟨⟨q0, q1, q2, q3⟩, -⟩ := id A3; obtain ⟨⟨p0, p1, p2, p3⟩, -⟩ := id A5; have Q0 := fun o => cell_alloc q0 o; clear hb tok2 _t))
    have A8 : Box4 (w2.alloc (.cells #[.bool false, .slice none 0 0, .slice none 0 0, .slice none 0 0] 25)) w2.heap.size (.bool false) (.slice none 0 0) (.slice none 0 0) (.slice none 0 0) := box4_new _ _ _ _ _ _ rfl
    obtain ⟨V0, hV0⟩ : ∃ V, V = (w2.alloc (.cells #[.bool false, .slice none 0 0, .slice none 0 0, .slice none 0 0] 25)).drew := ⟨_, rfl⟩
    have hA : Below w2.heap.size w2 V0 := by rw [hV0]; exact ((Below.refl _ _).alloc (Nat.le_refl _) _).drew
    replace A8 : Box4 V0 w2.heap.size (.bool false) (.slice none 0 0) (.slice none 0 0) (.slice none 0 0) := by rw [hV0]; exact A8.drew
    replace A3 := A3.below hA
    replace A5 := A5.below hA
    have h6lt : w.heap.size + 2 < w2.heap.size := A6.lt
    replace A6 := A6.below hA
    replace HB := Below.tr HB hA
    have h8B : w2.heap.size < V0.heap.size := A8.lt
    clear q0 q1 q2 q3 p0 p1 p2 p3 Q0
    generalize w2.heap.size = h8 at *
    refine region_last (by kernel_rfl) 13 (leafV w.heap.size (w.heap.size + 1) V0.heap.size (n + m) (n' + m') (.slice a n c) (.slice e m f) (.slice a' n' c') (.slice e' m' f') XS YS) (fun u => Below V0.heap.size V0 u) (LeafT h8 V0.heap.size (n + m) (n' + m') XS YS V0) (fun u u' => Turns (fun k => k = h8) u u') (by kernel_rfl) (by kernel_rfl) (fun i v u u' t hv => leafV_mono h8B i v u u' t hv) (by rw [← hV0]; exact Below.refl _ _) ?step ?done
    case step =>
      intro i o ho ac u hS hdf hsz hdep hsame
      have B3 := A3.below hS
      have B5 := A5.below hS
      have B8 := A8.below hS
      have hsz0 : V0.heap.size ≤ u.heap.size := hS.size
      have HU : Hid (Below w.heap.size w u) := Below.tr HB hS
      obtain ⟨⟨q0, q1, q2, q3⟩, -⟩ := id B3
      obtain ⟨⟨p0, p1, p2, p3⟩, -⟩ := id B5
      obtain ⟨⟨r0, r1, r2, r3⟩, g0, g1, g2, g3⟩ := id B8
      match i, ho with
      | 0, ho =>
        cases ho
        have h3 := hsame 3 rfl
        exact op_value rfl (wanted_free rfl) (by clear hdep hsame hsz hdf; go_simp) rfl (by rw [if_neg (by decide)]; exact hS) (Turns.refl _ _)
      | 1, ho =>
        cases ho
        obtain ⟨_, h27, rfl⟩ := hdep 0 _ 27 rfl rfl rfl
        exact op_value rfl (wanted_free rfl) (by clear hdep hsame hsz hdf; go_simp) rfl (by rw [if_neg (by decide)]; exact hS) (Turns.refl _ _)
      | 2, ho =>
        cases ho
        have h5 := hsame 5 rfl
        exact op_value rfl (wanted_free rfl) (by clear hdep hsame hsz hdf; go_simp) rfl (by rw [if_neg (by decide)]; exact hS) (Turns.refl _ _)
      | 3, ho =>
        cases ho
        obtain ⟨_, h29, rfl⟩ := hdep 2 _ 29 rfl rfl rfl
        exact op_value rfl (wanted_free rfl) (by clear hdep hsame hsz hdf; go_simp) rfl (by rw [if_neg (by decide)]; exact hS) (Turns.refl _ _)
      | 4, ho =>
        cases ho
        obtain ⟨_, h28, rfl⟩ := hdep 1 _ 28 rfl rfl rfl
        obtain ⟨_, h30, rfl⟩ := hdep 3 _ 30 rfl rfl rfl
        exact op_value (v := .slice (some ⟨u.heap.size, 0, none⟩) 2 2) (w' := u.alloc (.cells #[.slice a n c, .slice e m f] 22)) rfl (wanted_free rfl) (by clear hdep hsame hsz hdf; go_simp) ⟨u.heap.size, rfl, hsz0, World.cell?_alloc_at _ _ _ _ rfl, World.cell?_alloc_at _ _ _ _ rfl⟩ (by rw [if_neg (by decide)]; exact hS.alloc hsz0 _) ((Turns.refl _ _).alloc _)
      | 5, ho =>
        cases ho
        obtain ⟨_, h31, g, rfl, hg, k0, k1⟩ := hdep 4 _ 31 rfl rfl rfl
        refine op_call (w' := u) rfl (wanted_free rfl) (by clear hdep hsame hsz hdf; go_simp) ((cJ u g HU.out k0 k1).mono ?_)
        rintro y u' ⟨p, q, rfl, i1, j1, hb⟩
        exact ⟨_, rfl, ⟨p, q, rfl, i1, j1.mono hsz0⟩, by rw [if_neg (by decide)]; exact hS.trans (hb.mono hsz0), Turns.of_below hb⟩
      | 6, ho =>
        cases ho
        have h3 := hsame 3 rfl
        exact op_value rfl (wanted_free rfl) (by clear hdep hsame hsz hdf; go_simp) rfl (by rw [if_neg (by decide)]; exact hS) (Turns.refl _ _)
      | 7, ho =>
        cases ho
        obtain ⟨_, h33, rfl⟩ := hdep 6 _ 33 rfl rfl rfl
        exact op_value rfl (wanted_free rfl) (by clear hdep hsame hsz hdf; go_simp) rfl (by rw [if_neg (by decide)]; exact hS) (Turns.refl _ _)
      | 8, ho =>
        cases ho
        have h5 := hsame 5 rfl
        exact op_value rfl (wanted_free rfl) (by clear hdep hsame hsz hdf; go_simp) rfl (by rw [if_neg (by decide)]; exact hS) (Turns.refl _ _)
      | 9, ho =>
        cases ho
        obtain ⟨_, h35, rfl⟩ := hdep 8 _ 35 rfl rfl rfl
        exact op_value rfl (wanted_free rfl) (by clear hdep hsame hsz hdf; go_simp) rfl (by rw [if_neg (by decide)]; exact hS) (Turns.refl _ _)
      | 10, ho =>
        cases ho
        obtain ⟨_, h34, rfl⟩ := hdep 7 _ 34 rfl rfl rfl
        obtain ⟨_, h36, rfl⟩ := hdep 9 _ 36 rfl rfl rfl
        exact op_value (v := .slice (some ⟨u.heap.size, 0, none⟩) 2 2) (w' := u.alloc (.cells #[.slice a' n' c', .slice e' m' f'] 22)) rfl (wanted_free rfl) (by clear hdep hsame hsz hdf; go_simp) ⟨u.heap.size, rfl, hsz0, World.cell?_alloc_at _ _ _ _ rfl, World.cell?_alloc_at _ _ _ _ rfl⟩ (by rw [if_neg (by decide)]; exact hS.alloc hsz0 _) ((Turns.refl _ _).alloc _)
      | 11, ho =>
        cases ho
        obtain ⟨_, h37, g, rfl, hg, k0, k1⟩ := hdep 10 _ 37 rfl rfl rfl
        refine op_call (w' := u) rfl (wanted_free rfl) (by clear hdep hsame hsz hdf; go_simp) ((cJ' u g HU.out k0 k1).mono ?_)
        rintro y u' ⟨p, q, rfl, i1, j1, hb⟩
        exact ⟨_, rfl, ⟨p, q, rfl, i1, j1.mono hsz0⟩, by rw [if_neg (by decide)]; exact hS.trans (hb.mono hsz0), Turns.of_below hb⟩
      | 12, ho =>
        cases ho
        obtain ⟨_, h32, G1⟩ := hdep 5 _ 32 rfl rfl rfl
        obtain ⟨_, h38, G2⟩ := hdep 11 _ 38 rfl rfl rfl
        obtain ⟨x1, y1, rfl, i1, j1⟩ := id G1
        obtain ⟨x2, y2, rfl, i2, j2⟩ := id G2
        exact op_value (v := .agg #[.bool true, .slice x1 (n + m) y1, .slice x2 (n' + m') y2, .slice none 0 0]) rfl (wanted_free rfl) (by clear hdep hsame hsz hdf G1 G2 i1 i2 j1 j2; go_simp) ⟨_, _, rfl, G1, G2⟩ (by rw [if_neg (by decide)]; exact hS) (Turns.refl _ _)
      | 13, ho =>
        cases ho
        have hp8 := hsame 8 rfl
        obtain ⟨_, h39, u1, u2, rfl, G1, G2⟩ := hdep 12 _ 39 rfl rfl rfl
        obtain ⟨x1, y1, rfl, i1, j1⟩ := id G1
        obtain ⟨x2, y2, rfl, i2, j2⟩ := id G2
        have T4 := turns_put4 u h8 (.bool true) (.slice x1 (n + m) y1) (.slice x2 (n' + m') y2) (.slice none 0 0)
        have HT : LeafT h8 V0.heap.size (n + m) (n' + m') XS YS V0 ((((u.setCell ⟨h8, 0, none⟩ (.bool true)).setCell ⟨h8, 1, none⟩ (.slice x1 (n + m) y1)).setCell ⟨h8, 2, none⟩ (.slice x2 (n' + m') y2)).setCell ⟨h8, 3, none⟩ (.slice none 0 0)) := ⟨_, _, B8.put _ _ _ _, G1.turns h8B T4, G2.turns h8B T4, (Turns.of_below hS).trans T4⟩
        exact op_skip rfl (wanted_free rfl) rfl (by clear hdep hsame hsz hdf G1 G2 i1 i2 j1 j2 T4 HT; go_simp) trivial (by rw [if_pos rfl]; exact HT) T4
      | k + 14, ho => simp at ho
    case done =>
      intro ac W3 hT hdf hsz hsame hval
      obtain ⟨v27, h27, hv27⟩ := hval 0 _ 27 rfl rfl
      obtain ⟨v28, h28, hv28⟩ := hval 1 _ 28 rfl rfl
      obtain ⟨v29, h29, hv29⟩ := hval 2 _ 29 rfl rfl
      obtain ⟨v30, h30, hv30⟩ := hval 3 _ 30 rfl rfl
      obtain ⟨v31, h31, hv31⟩ := hval 4 _ 31 rfl rfl
      obtain ⟨v32, h32, hv32⟩ := hval 5 _ 32 rfl rfl
      obtain ⟨v33, h33, hv33⟩ := hval 6 _ 33 rfl rfl
      obtain ⟨v34, h34, hv34⟩ := hval 7 _ 34 rfl rfl
      obtain ⟨v35, h35, hv35⟩ := hval 8 _ 35 rfl rfl
      obtain ⟨v36, h36, hv36⟩ := hval 9 _ 36 rfl rfl
      obtain ⟨v37, h37, hv37⟩ := hval 10 _ 37 rfl rfl
      obtain ⟨v38, h38, hv38⟩ := hval 11 _ 38 rfl rfl
      obtain ⟨v39, h39, hv39⟩ := hval 12 _ 39 rfl rfl
      obtain rfl := Anyorder.frame_is (l := [_, _, _, _, _, _, _, _, _, _, _, _, _, _, _, _, _, _, _, _, _, _, _, _, _, _, _, _, _, _, _, _, _, _, _, _, _, _, _, _, _, _, _, _, _, _, _, _, _, _, _, _, _, _, _, _, _, _, _, _]) ⟨(hsame 0 (Anyorder.unwritten (by kernel_rfl))).trans rfl, (hsame 1 (Anyorder.unwritten (by kernel_rfl))).trans rfl, (hsame 2 (Anyorder.unwritten (by kernel_rfl))).trans rfl, (hsame 3 (Anyorder.unwritten (by kernel_rfl))).trans rfl, (hsame 4 (Anyorder.unwritten (by kernel_rfl))).trans rfl, (hsame 5 (Anyorder.unwritten (by kernel_rfl))).trans rfl, (hsame 6 (Anyorder.unwritten (by kernel_rfl))).trans rfl, (hsame 7 (Anyorder.unwritten (by kernel_rfl))).trans rfl, (hsame 8 (Anyorder.unwritten (by kernel_rfl))).trans rfl, (hsame 9 (Anyorder.unwritten (by kernel_rfl))).trans rfl, (hsame 10 (Anyorder.unwritten (by kernel_rfl))).trans rfl, (hsame 11 (Anyorder.unwritten (by kernel_rfl))).trans rfl, (hsame 12 (Anyorder.unwritten (by kernel_rfl))).trans rfl, (hsame 13 (Anyorder.unwritten (by kernel_rfl))).trans rfl, (hsame 14 (Anyorder.unwritten (by kernel_rfl))).trans rfl, (hsame 15 (Anyorder.unwritten (by kernel_rfl))).trans rfl, (hsame 16 (Anyorder.unwritten (by kernel_rfl))).trans rfl, (hsame 17 (Anyorder.unwritten (by kernel_rfl))).trans rfl, (hsame 18 (Anyorder.unwritten (by kernel_rfl))).trans rfl, (hsame 19 (Anyorder.unwritten (by kernel_rfl))).trans rfl, (hsame 20 (Anyorder.unwritten (by kernel_rfl))).trans rfl, (hsame 21 (Anyorder.unwritten (by kernel_rfl))).trans rfl, (hsame 22 (Anyorder.unwritten (by kernel_rfl))).trans rfl, (hsame 23 (Anyorder.unwritten (by kernel_rfl))).trans rfl, (hsame 24 (Anyorder.unwritten (by kernel_rfl))).trans rfl, (hsame 25 (Anyorder.unwritten (by kernel_rfl))).trans rfl, (hsame 26 (Anyorder.unwritten (by kernel_rfl))).trans rfl, h27, h28, h29, h30, h31, h32, h33, h34, h35, h36, h37, h38, h39, (hsame 40 (Anyorder.unwritten (by kernel_rfl))).trans rfl, (hsame 41 (Anyorder.unwritten (by kernel_rfl))).trans rfl, (hsame 42 (Anyorder.unwritten (by kernel_rfl))).trans rfl, (hsame 43 (Anyorder.unwritten (by kernel_rfl))).trans rfl, (hsame 44 (Anyorder.unwritten (by kernel_rfl))).trans rfl, (hsame 45 (Anyorder.unwritten (by kernel_rfl))).trans rfl, (hsame 46 (Anyorder.unwritten (by kernel_rfl))).trans rfl, (hsame 47 (Anyorder.unwritten (by kernel_rfl))).trans rfl, (hsame 48 (Anyorder.unwritten (by kernel_rfl))).trans rfl, (hsame 49 (Anyorder.unwritten (by kernel_rfl))).trans rfl, (hsame 50 (Anyorder.unwritten (by kernel_rfl))).trans rfl, (hsame 51 (Anyorder.unwritten (by kernel_rfl))).trans rfl, (hsame 52 (Anyorder.unwritten (by kernel_rfl))).trans rfl, (hsame 53 (Anyorder.unwritten (by kernel_rfl))).trans rfl, (hsame 54 (Anyorder.unwritten (by kernel_rfl))).trans rfl, (hsame 55 (Anyorder.unwritten (by kernel_rfl))).trans rfl, (hsame 56 (Anyorder.unwritten (by kernel_rfl))).trans rfl, (hsame 57 (Anyorder.unwritten (by kernel_rfl))).trans rfl, (hsame 58 (Anyorder.unwritten (by kernel_rfl))).trans rfl, (hsame 59 (Anyorder.unwritten (by kernel_rfl))).trans rfl, trivial⟩ hdf hsz
      obtain ⟨u1, u2, X8, ⟨x1, y1, rfl, i1, j1⟩, ⟨x2, y2, rfl, i2, j2⟩, T3⟩ := hT
      have I1 : Hid (IsS W3 x1 y1 XS) := i1
      have I2 : Hid (IsS W3 x2 y2 YS) := i2
      have J1 : Hid (From V0.heap.size x1) := j1
      have J2 : Hid (From V0.heap.size x2) := j2
      have B3 : Hid (Below w.heap.size w W3) := Below.turns HB T3 (fun k hk => by omega)
      have X6 := A6.turns T3 (by omega)
      have c4 := c3 W3 x1 y1 x2 y2 i1 i2
      obtain ⟨⟨q0, q1, q2, q3⟩, -⟩ := id X8
      clear hval hsame hsz hdf i1 i2 j1 j2 A3 A5 A6 A8 HB hV0 hA T3
      go_wp2_with (go_at_call 31; refine c4.mono ?_; rintro y w5 ⟨rfl, hb⟩; replace X8 := X8.below hb; replace X6 := X6.below hb; replace B3 : Hid (Below w.heap.size w w5) := Below.tr B3.out hb; replace I1 : Hid (IsS w5 x1 y1 XS) := I1.out.below hb; replace I2 : Hid (IsS w5 x2 y2 YS) := I2.out.below hb; clear q0 q1 q2 q3; obtain ⟨⟨q0, q1, q2, q3⟩, -⟩ := id X8; obtain ⟨⟨r0, r1, r2, r3⟩, g0, g1, g2, g3⟩ := id X6; clear hb)
      have T4 := turns_put4 w5 (w.heap.size + 2) (.bool false) (.slice none 0 0) (.slice none 0 0) (.slice none 0 0)
      exact bodyPost_ret (v := .tuple #[.agg #[.bool false, .slice none 0 0, .slice none 0 0, .slice none 0 0], .int .i64 1]) (by simp [results, Try.results22, go_sem, r0, r1, r2, r3]) rfl (answers_none (Below.turns B3.out T4 (fun k hk => by omega)))

end Go.Proofs.Ytmhnnfmggdohkaa

/-
  The program's own Join of inner nodes, and of any.
-/
import Derived.Test.YtmhnnfmggdohkaaNodeJoin
namespace Go.Proofs.Ytmhnnfmggdohkaa
open Go.RowKit Plain Anylast
set_option linter.unusedVariables false

def OneS (B : Nat) (key : ByteArray) (v : Value) (w : World) : Prop := ∃ k, v = .slice (some ⟨k, 0, none⟩) 1 1 ∧ B ≤ k ∧ w.cell? ⟨k, 0, none⟩ = some (.string key)
def ThreeS (B : Nat) (r1 r2 : Value) (key : ByteArray) (v : Value) (w : World) : Prop := ∃ g k, v = .slice (some ⟨g, 0, none⟩) 3 3 ∧ B ≤ g ∧ B ≤ k ∧ w.cell? ⟨g, 0, none⟩ = some r1 ∧ w.cell? ⟨g, 1, none⟩ = some (.slice (some ⟨k, 0, none⟩) 1 1) ∧ w.cell? ⟨g, 2, none⟩ = some r2 ∧ w.cell? ⟨k, 0, none⟩ = some (.string key)

theorem OneS.turns {B h : Nat} {key : ByteArray} {v : Value} {w w' : World} (hs : OneS B key v w) (hh : h < B) (t : Turns (fun k => k = h) w w') : OneS B key v w' := by
  obtain ⟨k, h1, h2, h3⟩ := hs
  exact ⟨k, h1, h2, t.cell (p := ⟨k, 0, none⟩) (by show ¬ k = h; omega) h3⟩

theorem ThreeS.turns {B h : Nat} {r1 r2 : Value} {key : ByteArray} {v : Value} {w w' : World} (hs : ThreeS B r1 r2 key v w) (hh : h < B) (t : Turns (fun k => k = h) w w') : ThreeS B r1 r2 key v w' := by
  obtain ⟨g, k, h1, h2, h3, h4, h5, h6, h7⟩ := hs
  exact ⟨g, k, h1, h2, h3, t.cell (p := ⟨g, 0, none⟩) (by show ¬ g = h; omega) h4, t.cell (p := ⟨g, 1, none⟩) (by show ¬ g = h; omega) h5, t.cell (p := ⟨g, 2, none⟩) (by show ¬ g = h; omega) h6, t.cell (p := ⟨k, 0, none⟩) (by show ¬ k = h; omega) h7⟩

/-- What the operations of Join's line for inner nodes yield. -/
def innV (h3 h5 B n n' : Nat) (r1 r2 s1 s2 : Value) (key : ByteArray) (xs : List ByteArray) (ys : List Int) (i : Nat) (v : Value) (w : World) : Prop :=
  match i with
  | 0 => v = .pointer (some ⟨h3, 1, none⟩)
  | 1 => v = r1
  | 2 => v = .string key
  | 3 => OneS B key v w
  | 4 => v = .pointer (some ⟨h5, 1, none⟩)
  | 5 => v = r2
  | 6 => ThreeS B r1 r2 key v w
  | 7 => GotS B n xs v w
  | 8 => v = .pointer (some ⟨h3, 3, none⟩)
  | 9 => v = s1
  | 10 => v = .pointer (some ⟨h5, 3, none⟩)
  | 11 => v = s2
  | 12 => TwoS B s1 s2 v w
  | 13 => GotI B n' ys v w
  | 14 => ∃ u u', v = .agg #[.bool false, u, .slice none 0 0, u'] ∧ GotS B n xs u w ∧ GotI B n' ys u' w
  | _ => True

def InnT (h8 B n n' : Nat) (xs : List ByteArray) (ys : List Int) (W w : World) : Prop :=
  ∃ u u', Box4 w h8 (.bool false) u (.slice none 0 0) u' ∧ GotS B n xs u w ∧ GotI B n' ys u' w ∧ Turns (fun k => k = h8) W w

theorem innV_mono {h3 h5 B n n' h : Nat} {r1 r2 s1 s2 : Value} {key : ByteArray} {xs : List ByteArray} {ys : List Int} (hh : h < B) (i : Nat) (v : Value) (w w' : World) (t : Turns (fun k => k = h) w w') (hv : innV h3 h5 B n n' r1 r2 s1 s2 key xs ys i v w) : innV h3 h5 B n n' r1 r2 s1 s2 key xs ys i v w' := by
  unfold innV at hv ⊢
  split at hv <;> first
    | exact hv
    | exact hv.turns hh t
    | (obtain ⟨u, u', h1, h2, h3⟩ := hv; exact ⟨u, u', h1, h2.turns hh t, h3.turns hh t⟩)

set_option maxRecDepth 20000 in
set_option maxHeartbeats 4000000 in
/-- JOIN, of inner nodes that may stand. -/
theorem joinInner_any (a a' a'' e e' e'' : Option Addr) (c c' c'' f f' f'' n n' n'' m m' m'' : Nat) (ks vs ks2 vs2 : List ByteArray) (cs cs2 : List Int) (key : ByteArray) (w : World)
    (hn : n = ks.length) (hn' : n' = vs.length) (hn'' : n'' = cs.length) (hK : IsS w a c ks) (hV : IsS w a' c' vs) (hC : IsI w a'' c'' cs)
    (hm : m = ks2.length) (hm' : m' = vs2.length) (hm'' : m'' = cs2.length) (hK2 : IsS w e f ks2) (hV2 : IsS w e' f' vs2) (hC2 : IsI w e'' f'' cs2)
    (hs : standsN false ks vs cs = true) (hs2 : standsN false ks2 vs2 cs2 = true) (hkey : key.size ≤ maxLen) :
    Calls Try.prog 22 #[.agg #[.bool false, .slice a n c, .slice a' n' c', .slice a'' n'' c''], .string key, .agg #[.bool false, .slice e m f, .slice e' m' f', .slice e'' m'' f'']] w fun x w' => if standsN false (ks ++ key :: ks2) [] (cs ++ cs2) = true then Answers w x w' false (ks ++ key :: ks2) [] (cs ++ cs2) 0 else Answers w x w' false [] [] [] 1 := by
  obtain ⟨W, hW⟩ : ∃ W, W = ((w.alloc (.cells #[.bool false, .slice a n c, .slice a' n' c', .slice a'' n'' c''] 25)).alloc (.cells #[.bool false, .slice e m f, .slice e' m' f', .slice e'' m'' f''] 25)).alloc (.cells #[.bool false, .slice none 0 0, .slice none 0 0, .slice none 0 0] 25) := ⟨_, rfl⟩
  have A3 : Box4 W w.heap.size (.bool false) (.slice a n c) (.slice a' n' c') (.slice a'' n'' c'') := by rw [hW]; exact ((box4_new _ _ _ _ _ _ rfl).alloc _).alloc _
  have A5 : Box4 W (w.heap.size + 1) (.bool false) (.slice e m f) (.slice e' m' f') (.slice e'' m'' f'') := by rw [hW]; exact (box4_new _ _ _ _ _ _ (by simp)).alloc _
  have A6 : Box4 W (w.heap.size + 2) (.bool false) (.slice none 0 0) (.slice none 0 0) (.slice none 0 0) := by rw [hW]; exact box4_new _ _ _ _ _ _ (by simp)
  have HB : Below w.heap.size w W := by rw [hW]; exact (((Below.refl _ _).alloc (Nat.le_refl _) _).alloc (by simp) _).alloc (by simp; omega) _
  have c1 : ∀ V, Below w.heap.size w V → Calls Try.prog 31 #[.agg #[.bool false, .slice a n c, .slice a' n' c', .slice a'' n'' c'']] V fun e w' => e = .returned (.bool true) ∧ Below V.heap.size V w' := fun V h => by have := mayStand_any false a a' a'' c c' c'' n n' n'' ks vs cs V hn hn' hn'' (hK.below h) (hV.below h) (hC.below h); rw [hs] at this; exact this
  have c2 : ∀ V, Below w.heap.size w V → Calls Try.prog 31 #[.agg #[.bool false, .slice e m f, .slice e' m' f', .slice e'' m'' f'']] V fun e w' => e = .returned (.bool true) ∧ Below V.heap.size V w' := fun V h => by have := mayStand_any false e e' e'' f f' f'' m m' m'' ks2 vs2 cs2 V hm hm' hm'' (hK2.below h) (hV2.below h) (hC2.below h); rw [hs2] at this; exact this
  have b9 : n ≤ 9 := by rw [hn]; exact (standsN_iff.1 hs).1
  have b9' : n'' ≤ 10 := by rw [hn'', (inner_one_eq hs).2.1, ← hn]; omega
  have d9 : m ≤ 9 := by rw [hm]; exact (standsN_iff.1 hs2).1
  have d9' : m'' ≤ 10 := by rw [hm'', (inner_one_eq hs2).2.1, ← hm]; omega
  have cJ : ∀ V g k, Below w.heap.size w V → V.cell? ⟨g, 0, none⟩ = some (.slice a n c) → V.cell? ⟨g, 1, none⟩ = some (.slice (some ⟨k, 0, none⟩) 1 1) → V.cell? ⟨g, 2, none⟩ = some (.slice e m f) → V.cell? ⟨k, 0, none⟩ = some (.string key) → Calls Try.prog 39 #[.slice (some ⟨g, 0, none⟩) 3 3] V fun x w' => ∃ p q, x = .returned (.slice p (n + 1 + m) q) ∧ IsS w' p q (ks ++ key :: ks2) ∧ From V.heap.size p ∧ Below V.heap.size V w' := fun V g k h h1 h2 h3 h4 => by
    have hf : flatS [(a, c, ks), (some ⟨k, 0, none⟩, 1, [key]), (e, f, ks2)] = ks ++ key :: ks2 := by simp [flatS]
    have := joinedS_any g 3 (n + 1 + m) [(a, c, ks), (some ⟨k, 0, none⟩, 1, [key]), (e, f, ks2)] V (by
      intro i r hr
      match i, hr with
      | 0, hr => cases hr; exact ⟨by rw [← hn]; exact h1, hK.below h⟩
      | 1, hr =>
        cases hr
        refine ⟨h2, Nat.le_refl _, (by show 1 ≤ maxLen; unfold maxLen; omega), fun j x hx => ?_⟩
        match j, hx with
        | 0, hx =>
          simp at hx
          subst hx
          exact ⟨k, 0, rfl, cell_lt h4, h4, hkey⟩
      | 2, hr => cases hr; exact ⟨by rw [← hm]; exact h3, hK2.below h⟩) rfl (by rw [hf, List.length_append, List.length_cons]; omega) (by omega) (by rw [hf, List.length_append, List.length_cons, hn, hm]; omega)
    rw [hf] at this
    exact this
  have cJ' : ∀ V g, Below w.heap.size w V → V.cell? ⟨g, 0, none⟩ = some (.slice a'' n'' c'') → V.cell? ⟨g, 1, none⟩ = some (.slice e'' m'' f'') → Calls Try.prog 40 #[.slice (some ⟨g, 0, none⟩) 2 2] V fun x w' => ∃ p q, x = .returned (.slice p (n'' + m'') q) ∧ IsI w' p q (cs ++ cs2) ∧ From V.heap.size p ∧ Below V.heap.size V w' := fun V g h h1 h2 => by
    have hf : flatI [(a'', c'', cs), (e'', f'', cs2)] = cs ++ cs2 := by simp [flatI]
    have := joinedI_any g 2 (n'' + m'') [(a'', c'', cs), (e'', f'', cs2)] V (by
      intro i r hr
      match i, hr with
      | 0, hr => cases hr; exact ⟨by rw [← hn'']; exact h1, hC.below h⟩
      | 1, hr => cases hr; exact ⟨by rw [← hm'']; exact h2, hC2.below h⟩) rfl (by rw [hf, List.length_append]; omega) (by omega) (by rw [hf, List.length_append, hn'', hm''])
    rw [hf] at this
    exact this
  have c3 : ∀ V p q p' q', IsS V p q (ks ++ key :: ks2) → IsI V p' q' (cs ++ cs2) → Calls Try.prog 31 #[.agg #[.bool false, .slice p (n + 1 + m) q, .slice none 0 0, .slice p' (n'' + m'') q']] V fun e w' => e = .returned (.bool (standsN false (ks ++ key :: ks2) [] (cs ++ cs2))) ∧ Below V.heap.size V w' := fun V p q p' q' h1 h2 => mayStand_any false p none p' q 0 q' (n + 1 + m) 0 (n'' + m'') _ [] _ V (by rw [List.length_append, List.length_cons, hn, hm]; omega) rfl (by rw [List.length_append, hn'', hm'']) h1 (isS_nil _) h2
  have E1 : Hid (n + 1 + m = (ks ++ key :: ks2).length) := by show _ = _; rw [List.length_append, List.length_cons, hn, hm]; omega
  have E2 : Hid (n'' + m'' = (cs ++ cs2).length) := by show _ = _; rw [List.length_append, hn'', hm'']
  clear hn hn' hn'' hm hm' hm'' hK hV hC hK2 hV2 hC2 hs hs2 b9 b9' d9 d9' hkey
  generalize ks ++ key :: ks2 = XS at *
  generalize cs ++ cs2 = YS at *
  have tok1 : True := trivial
  have tok2 : True := trivial
  obtain ⟨⟨q0, q1, q2, q3⟩, -⟩ := id A3
  obtain ⟨⟨p0, p1, p2, p3⟩, -⟩ := id A5
  have hle : w.heap.size ≤ w.heap.size + 2 := by omega
  have e0 : (false != false) = false := rfl
  cases hst : standsN false XS [] YS with
  | true =>
    rw [hst] at c3
    simp only [if_true]
    clear hst
    go_enter Try.func22, Try.ntmps22
    go_wp2_with (first
      | (go_at_call 31; have _t := tok1; rw [← hW]; refine (c1 _ HB).mono ?_; rintro y w1 ⟨rfl, hb⟩; replace HB := Below.tr HB hb; replace A3 := A3.below hb; replace A5 := A5.below hb; replace A6 := A6.below hb; clear q0 q1 q2 q3 p0 p1 p2 p3; obtain ⟨⟨q0, q1, q2, q3⟩, -⟩ := id A3; obtain ⟨⟨p0, p1, p2, p3⟩, -⟩ := id A5; clear hb tok1 _t)
      | (go_at_call 31; have _t := tok2; refine (c2 _ HB).mono ?_; rintro y w2 ⟨rfl, hb⟩; replace HB := Below.tr HB hb; replace A3 := A3.below hb; replace A5 := A5.below hb; replace A6 := A6.below hb; clear q0 q1 q2 q3 p0 p1 p2 p3; obtain ⟨⟨q0, q1, q2, q3⟩, -⟩ := id A3; obtain ⟨⟨p0, p1, p2, p3⟩, -⟩ := id A5; have Q0 := fun o => cell_alloc q0 o; clear hb tok2 _t))
    have A8 : Box4 (w2.alloc (.cells #[.bool false, .slice none 0 0, .slice none 0 0, .slice none 0 0] 25)) w2.heap.size (.bool false) (.slice none 0 0) (.slice none 0 0) (.slice none 0 0) := box4_new _ _ _ _ _ _ rfl
    obtain ⟨V0, hV0⟩ : ∃ V, V = (w2.alloc (.cells #[.bool false, .slice none 0 0, .slice none 0 0, .slice none 0 0] 25)).drew := ⟨_, rfl⟩
    have hA : Below w2.heap.size w2 V0 := by rw [hV0]; exact ((Below.refl _ _).alloc (Nat.le_refl _) _).drew
    replace A8 : Box4 V0 w2.heap.size (.bool false) (.slice none 0 0) (.slice none 0 0) (.slice none 0 0) := by rw [hV0]; exact A8.drew
    replace A3 := A3.below hA
    replace A5 := A5.below hA
    have h6lt : w.heap.size + 2 < w2.heap.size := A6.lt
    replace A6 := A6.below hA
    replace HB := Below.tr HB hA
    have h8B : w2.heap.size < V0.heap.size := A8.lt
    clear q0 q1 q2 q3 p0 p1 p2 p3 Q0
    generalize w2.heap.size = h8 at *
    refine region_last (by kernel_rfl) 15 (innV w.heap.size (w.heap.size + 1) V0.heap.size (n + 1 + m) (n'' + m'') (.slice a n c) (.slice e m f) (.slice a'' n'' c'') (.slice e'' m'' f'') key XS YS) (fun u => Below V0.heap.size V0 u) (InnT h8 V0.heap.size (n + 1 + m) (n'' + m'') XS YS V0) (fun u u' => Turns (fun k => k = h8) u u') (by kernel_rfl) (by kernel_rfl) (fun i v u u' t hv => innV_mono h8B i v u u' t hv) (by rw [← hV0]; exact Below.refl _ _) ?step ?done
    case step =>
      intro i o ho ac u hS hdf hsz hdep hsame
      have B3 := A3.below hS
      have B5 := A5.below hS
      have B8 := A8.below hS
      have hsz0 : V0.heap.size ≤ u.heap.size := hS.size
      have HU : Hid (Below w.heap.size w u) := Below.tr HB hS
      obtain ⟨⟨q0, q1, q2, q3⟩, -⟩ := id B3
      obtain ⟨⟨p0, p1, p2, p3⟩, -⟩ := id B5
      obtain ⟨⟨r0, r1, r2, r3⟩, g0, g1, g2, g3⟩ := id B8
      match i, ho with
      | 0, ho =>
        cases ho
        have h3 := hsame 3 rfl
        exact op_value rfl (wanted_free rfl) (by clear hdep hsame hsz hdf; go_simp) rfl (by rw [if_neg (by decide)]; exact hS) (Turns.refl _ _)
      | 1, ho =>
        cases ho
        obtain ⟨_, h40, rfl⟩ := hdep 0 _ 40 rfl rfl rfl
        exact op_value rfl (wanted_free rfl) (by clear hdep hsame hsz hdf; go_simp) rfl (by rw [if_neg (by decide)]; exact hS) (Turns.refl _ _)
      | 2, ho =>
        cases ho
        have h1 := hsame 1 rfl
        exact op_value rfl (wanted_free rfl) (by clear hdep hsame hsz hdf; go_simp) rfl (by rw [if_neg (by decide)]; exact hS) (Turns.refl _ _)
      | 3, ho =>
        cases ho
        obtain ⟨_, h42, rfl⟩ := hdep 2 _ 42 rfl rfl rfl
        exact op_value (v := .slice (some ⟨u.heap.size, 0, none⟩) 1 1) (w' := u.alloc (.cells #[.string key] 9)) rfl (wanted_free rfl) (by clear hdep hsame hsz hdf; go_simp) ⟨u.heap.size, rfl, hsz0, World.cell?_alloc_at _ _ _ _ rfl⟩ (by rw [if_neg (by decide)]; exact hS.alloc hsz0 _) ((Turns.refl _ _).alloc _)
      | 4, ho =>
        cases ho
        have h5 := hsame 5 rfl
        exact op_value rfl (wanted_free rfl) (by clear hdep hsame hsz hdf; go_simp) rfl (by rw [if_neg (by decide)]; exact hS) (Turns.refl _ _)
      | 5, ho =>
        cases ho
        obtain ⟨_, h44, rfl⟩ := hdep 4 _ 44 rfl rfl rfl
        exact op_value rfl (wanted_free rfl) (by clear hdep hsame hsz hdf; go_simp) rfl (by rw [if_neg (by decide)]; exact hS) (Turns.refl _ _)
      | 6, ho =>
        cases ho
        obtain ⟨_, h41, rfl⟩ := hdep 1 _ 41 rfl rfl rfl
        obtain ⟨_, h43, k, rfl, hk, kc⟩ := hdep 3 _ 43 rfl rfl rfl
        obtain ⟨_, h45, rfl⟩ := hdep 5 _ 45 rfl rfl rfl
        exact op_value (v := .slice (some ⟨u.heap.size, 0, none⟩) 3 3) (w' := u.alloc (.cells #[.slice a n c, .slice (some ⟨k, 0, none⟩) 1 1, .slice e m f] 22)) rfl (wanted_free rfl) (by clear hdep hsame hsz hdf; go_simp) ⟨u.heap.size, k, rfl, hsz0, hk, World.cell?_alloc_at _ _ _ _ rfl, World.cell?_alloc_at _ _ _ _ rfl, World.cell?_alloc_at _ _ _ _ rfl, cell_alloc kc _⟩ (by rw [if_neg (by decide)]; exact hS.alloc hsz0 _) ((Turns.refl _ _).alloc _)
      | 7, ho =>
        cases ho
        obtain ⟨_, h46, g, k, rfl, hg, hk, k0, k1, k2, k3⟩ := hdep 6 _ 46 rfl rfl rfl
        refine op_call (w' := u) rfl (wanted_free rfl) (by clear hdep hsame hsz hdf; go_simp) ((cJ u g k HU.out k0 k1 k2 k3).mono ?_)
        rintro y u' ⟨p, q, rfl, i1, j1, hb⟩
        exact ⟨_, rfl, ⟨p, q, rfl, i1, j1.mono hsz0⟩, by rw [if_neg (by decide)]; exact hS.trans (hb.mono hsz0), Turns.of_below hb⟩
      | 8, ho =>
        cases ho
        have h3 := hsame 3 rfl
        exact op_value rfl (wanted_free rfl) (by clear hdep hsame hsz hdf; go_simp) rfl (by rw [if_neg (by decide)]; exact hS) (Turns.refl _ _)
      | 9, ho =>
        cases ho
        obtain ⟨_, h48, rfl⟩ := hdep 8 _ 48 rfl rfl rfl
        exact op_value rfl (wanted_free rfl) (by clear hdep hsame hsz hdf; go_simp) rfl (by rw [if_neg (by decide)]; exact hS) (Turns.refl _ _)
      | 10, ho =>
        cases ho
        have h5 := hsame 5 rfl
        exact op_value rfl (wanted_free rfl) (by clear hdep hsame hsz hdf; go_simp) rfl (by rw [if_neg (by decide)]; exact hS) (Turns.refl _ _)
      | 11, ho =>
        cases ho
        obtain ⟨_, h50, rfl⟩ := hdep 10 _ 50 rfl rfl rfl
        exact op_value rfl (wanted_free rfl) (by clear hdep hsame hsz hdf; go_simp) rfl (by rw [if_neg (by decide)]; exact hS) (Turns.refl _ _)
      | 12, ho =>
        cases ho
        obtain ⟨_, h49, rfl⟩ := hdep 9 _ 49 rfl rfl rfl
        obtain ⟨_, h51, rfl⟩ := hdep 11 _ 51 rfl rfl rfl
        exact op_value (v := .slice (some ⟨u.heap.size, 0, none⟩) 2 2) (w' := u.alloc (.cells #[.slice a'' n'' c'', .slice e'' m'' f''] 23)) rfl (wanted_free rfl) (by clear hdep hsame hsz hdf; go_simp) ⟨u.heap.size, rfl, hsz0, World.cell?_alloc_at _ _ _ _ rfl, World.cell?_alloc_at _ _ _ _ rfl⟩ (by rw [if_neg (by decide)]; exact hS.alloc hsz0 _) ((Turns.refl _ _).alloc _)
      | 13, ho =>
        cases ho
        obtain ⟨_, h52, g, rfl, hg, k0, k1⟩ := hdep 12 _ 52 rfl rfl rfl
        refine op_call (w' := u) rfl (wanted_free rfl) (by clear hdep hsame hsz hdf; go_simp) ((cJ' u g HU.out k0 k1).mono ?_)
        rintro y u' ⟨p, q, rfl, i1, j1, hb⟩
        exact ⟨_, rfl, ⟨p, q, rfl, i1, j1.mono hsz0⟩, by rw [if_neg (by decide)]; exact hS.trans (hb.mono hsz0), Turns.of_below hb⟩
      | 14, ho =>
        cases ho
        obtain ⟨_, h47, G1⟩ := hdep 7 _ 47 rfl rfl rfl
        obtain ⟨_, h53, G2⟩ := hdep 13 _ 53 rfl rfl rfl
        obtain ⟨x1, y1, rfl, i1, j1⟩ := id G1
        obtain ⟨x2, y2, rfl, i2, j2⟩ := id G2
        exact op_value (v := .agg #[.bool false, .slice x1 (n + 1 + m) y1, .slice none 0 0, .slice x2 (n'' + m'') y2]) rfl (wanted_free rfl) (by clear hdep hsame hsz hdf G1 G2 i1 i2 j1 j2; go_simp) ⟨_, _, rfl, G1, G2⟩ (by rw [if_neg (by decide)]; exact hS) (Turns.refl _ _)
      | 15, ho =>
        cases ho
        have hp8 := hsame 8 rfl
        obtain ⟨_, h54, u1, u2, rfl, G1, G2⟩ := hdep 14 _ 54 rfl rfl rfl
        obtain ⟨x1, y1, rfl, i1, j1⟩ := id G1
        obtain ⟨x2, y2, rfl, i2, j2⟩ := id G2
        have T4 := turns_put4 u h8 (.bool false) (.slice x1 (n + 1 + m) y1) (.slice none 0 0) (.slice x2 (n'' + m'') y2)
        have HT : InnT h8 V0.heap.size (n + 1 + m) (n'' + m'') XS YS V0 ((((u.setCell ⟨h8, 0, none⟩ (.bool false)).setCell ⟨h8, 1, none⟩ (.slice x1 (n + 1 + m) y1)).setCell ⟨h8, 2, none⟩ (.slice none 0 0)).setCell ⟨h8, 3, none⟩ (.slice x2 (n'' + m'') y2)) := ⟨_, _, B8.put _ _ _ _, G1.turns h8B T4, G2.turns h8B T4, (Turns.of_below hS).trans T4⟩
        exact op_skip rfl (wanted_free rfl) rfl (by clear hdep hsame hsz hdf G1 G2 i1 i2 j1 j2 T4 HT; go_simp) trivial (by rw [if_pos rfl]; exact HT) T4
      | k + 16, ho => simp at ho
    case done =>
      intro ac W3 hT hdf hsz hsame hval
      obtain ⟨v40, h40, hv40⟩ := hval 0 _ 40 rfl rfl
      obtain ⟨v41, h41, hv41⟩ := hval 1 _ 41 rfl rfl
      obtain ⟨v42, h42, hv42⟩ := hval 2 _ 42 rfl rfl
      obtain ⟨v43, h43, hv43⟩ := hval 3 _ 43 rfl rfl
      obtain ⟨v44, h44, hv44⟩ := hval 4 _ 44 rfl rfl
      obtain ⟨v45, h45, hv45⟩ := hval 5 _ 45 rfl rfl
      obtain ⟨v46, h46, hv46⟩ := hval 6 _ 46 rfl rfl
      obtain ⟨v47, h47, hv47⟩ := hval 7 _ 47 rfl rfl
      obtain ⟨v48, h48, hv48⟩ := hval 8 _ 48 rfl rfl
      obtain ⟨v49, h49, hv49⟩ := hval 9 _ 49 rfl rfl
      obtain ⟨v50, h50, hv50⟩ := hval 10 _ 50 rfl rfl
      obtain ⟨v51, h51, hv51⟩ := hval 11 _ 51 rfl rfl
      obtain ⟨v52, h52, hv52⟩ := hval 12 _ 52 rfl rfl
      obtain ⟨v53, h53, hv53⟩ := hval 13 _ 53 rfl rfl
      obtain ⟨v54, h54, hv54⟩ := hval 14 _ 54 rfl rfl
      obtain rfl := Anyorder.frame_is (l := [_, _, _, _, _, _, _, _, _, _, _, _, _, _, _, _, _, _, _, _, _, _, _, _, _, _, _, _, _, _, _, _, _, _, _, _, _, _, _, _, _, _, _, _, _, _, _, _, _, _, _, _, _, _, _, _, _, _, _, _]) ⟨(hsame 0 (Anyorder.unwritten (by kernel_rfl))).trans rfl, (hsame 1 (Anyorder.unwritten (by kernel_rfl))).trans rfl, (hsame 2 (Anyorder.unwritten (by kernel_rfl))).trans rfl, (hsame 3 (Anyorder.unwritten (by kernel_rfl))).trans rfl, (hsame 4 (Anyorder.unwritten (by kernel_rfl))).trans rfl, (hsame 5 (Anyorder.unwritten (by kernel_rfl))).trans rfl, (hsame 6 (Anyorder.unwritten (by kernel_rfl))).trans rfl, (hsame 7 (Anyorder.unwritten (by kernel_rfl))).trans rfl, (hsame 8 (Anyorder.unwritten (by kernel_rfl))).trans rfl, (hsame 9 (Anyorder.unwritten (by kernel_rfl))).trans rfl, (hsame 10 (Anyorder.unwritten (by kernel_rfl))).trans rfl, (hsame 11 (Anyorder.unwritten (by kernel_rfl))).trans rfl, (hsame 12 (Anyorder.unwritten (by kernel_rfl))).trans rfl, (hsame 13 (Anyorder.unwritten (by kernel_rfl))).trans rfl, (hsame 14 (Anyorder.unwritten (by kernel_rfl))).trans rfl, (hsame 15 (Anyorder.unwritten (by kernel_rfl))).trans rfl, (hsame 16 (Anyorder.unwritten (by kernel_rfl))).trans rfl, (hsame 17 (Anyorder.unwritten (by kernel_rfl))).trans rfl, (hsame 18 (Anyorder.unwritten (by kernel_rfl))).trans rfl, (hsame 19 (Anyorder.unwritten (by kernel_rfl))).trans rfl, (hsame 20 (Anyorder.unwritten (by kernel_rfl))).trans rfl, (hsame 21 (Anyorder.unwritten (by kernel_rfl))).trans rfl, (hsame 22 (Anyorder.unwritten (by kernel_rfl))).trans rfl, (hsame 23 (Anyorder.unwritten (by kernel_rfl))).trans rfl, (hsame 24 (Anyorder.unwritten (by kernel_rfl))).trans rfl, (hsame 25 (Anyorder.unwritten (by kernel_rfl))).trans rfl, (hsame 26 (Anyorder.unwritten (by kernel_rfl))).trans rfl, (hsame 27 (Anyorder.unwritten (by kernel_rfl))).trans rfl, (hsame 28 (Anyorder.unwritten (by kernel_rfl))).trans rfl, (hsame 29 (Anyorder.unwritten (by kernel_rfl))).trans rfl, (hsame 30 (Anyorder.unwritten (by kernel_rfl))).trans rfl, (hsame 31 (Anyorder.unwritten (by kernel_rfl))).trans rfl, (hsame 32 (Anyorder.unwritten (by kernel_rfl))).trans rfl, (hsame 33 (Anyorder.unwritten (by kernel_rfl))).trans rfl, (hsame 34 (Anyorder.unwritten (by kernel_rfl))).trans rfl, (hsame 35 (Anyorder.unwritten (by kernel_rfl))).trans rfl, (hsame 36 (Anyorder.unwritten (by kernel_rfl))).trans rfl, (hsame 37 (Anyorder.unwritten (by kernel_rfl))).trans rfl, (hsame 38 (Anyorder.unwritten (by kernel_rfl))).trans rfl, (hsame 39 (Anyorder.unwritten (by kernel_rfl))).trans rfl, h40, h41, h42, h43, h44, h45, h46, h47, h48, h49, h50, h51, h52, h53, h54, (hsame 55 (Anyorder.unwritten (by kernel_rfl))).trans rfl, (hsame 56 (Anyorder.unwritten (by kernel_rfl))).trans rfl, (hsame 57 (Anyorder.unwritten (by kernel_rfl))).trans rfl, (hsame 58 (Anyorder.unwritten (by kernel_rfl))).trans rfl, (hsame 59 (Anyorder.unwritten (by kernel_rfl))).trans rfl, trivial⟩ hdf hsz
      obtain ⟨u1, u2, X8, ⟨x1, y1, rfl, i1, j1⟩, ⟨x2, y2, rfl, i2, j2⟩, T3⟩ := hT
      have I1 : Hid (IsS W3 x1 y1 XS) := i1
      have I2 : Hid (IsI W3 x2 y2 YS) := i2
      have J1 : Hid (From V0.heap.size x1) := j1
      have J2 : Hid (From V0.heap.size x2) := j2
      have B3 : Hid (Below w.heap.size w W3) := Below.turns HB T3 (fun k hk => by omega)
      have X6 := A6.turns T3 (by omega)
      have c4 := c3 W3 x1 y1 x2 y2 i1 i2
      obtain ⟨⟨q0, q1, q2, q3⟩, -⟩ := id X8
      clear hval hsame hsz hdf i1 i2 j1 j2 A3 A5 A6 A8 HB hV0 hA T3
      go_wp2_with (go_at_call 31; refine c4.mono ?_; rintro y w5 ⟨rfl, hb⟩; replace X8 := X8.below hb; replace X6 := X6.below hb; replace B3 : Hid (Below w.heap.size w w5) := Below.tr B3.out hb; replace I1 : Hid (IsS w5 x1 y1 XS) := I1.out.below hb; replace I2 : Hid (IsI w5 x2 y2 YS) := I2.out.below hb; clear q0 q1 q2 q3; obtain ⟨⟨q0, q1, q2, q3⟩, -⟩ := id X8; obtain ⟨⟨r0, r1, r2, r3⟩, g0, g1, g2, g3⟩ := id X6; clear hb)
      have T4 := turns_put4 w5 (w.heap.size + 2) (.bool false) (.slice x1 (n + 1 + m) y1) (.slice none 0 0) (.slice x2 (n'' + m'') y2)
      exact bodyPost_ret (v := .tuple #[.agg #[.bool false, .slice x1 (n + 1 + m) y1, .slice none 0 0, .slice x2 (n'' + m'') y2], .int .i64 0]) (by simp [results, Try.results22, go_sem, r0, r1, r2, r3]) rfl ⟨_, x1, y1, 0, none, 0, _, x2, y2, rfl, E1.out, rfl, E2.out, I1.out.turns T4 (fun x hx e => by have := J1.out x hx; omega), isS_nil _, I2.out.turns T4 (fun x hx e => by have := J2.out x hx; omega), J1.out.mono (by omega), from_nil _, J2.out.mono (by omega), Below.turns B3.out T4 (fun k hk => by omega)⟩
  | false =>
    rw [hst] at c3
    simp only [Bool.false_eq_true, if_false]
    clear hst
    go_enter Try.func22, Try.ntmps22
    go_wp2_with (first
      | (go_at_call 31; have _t := tok1; rw [← hW]; refine (c1 _ HB).mono ?_; rintro y w1 ⟨rfl, hb⟩; replace HB := Below.tr HB hb; replace A3 := A3.below hb; replace A5 := A5.below hb; replace A6 := A6.below hb; clear q0 q1 q2 q3 p0 p1 p2 p3; obtain ⟨⟨q0, q1, q2, q3⟩, -⟩ := id A3; obtain ⟨⟨p0, p1, p2, p3⟩, -⟩ := id A5; clear hb tok1 _t)
      | (go_at_call 31; have _t := tok2; refine (c2 _ HB).mono ?_; rintro y w2 ⟨rfl, hb⟩; replace HB := Below.tr HB hb; replace A3 := A3.below hb; replace A5 := A5.below hb; replace A6 := A6.below hb; clear q0 q1 q2 q3 p0 p1 p2 p3; obtain ⟨⟨q0, q1, q2, q3⟩, -⟩ := id A3; obtain ⟨⟨p0, p1, p2, p3⟩, -⟩ := id A5; have Q0 := fun o => cell_alloc q0 o; clear hb tok2 _t))
    have A8 : Box4 (w2.alloc (.cells #[.bool false, .slice none 0 0, .slice none 0 0, .slice none 0 0] 25)) w2.heap.size (.bool false) (.slice none 0 0) (.slice none 0 0) (.slice none 0 0) := box4_new _ _ _ _ _ _ rfl
    obtain ⟨V0, hV0⟩ : ∃ V, V = (w2.alloc (.cells #[.bool false, .slice none 0 0, .slice none 0 0, .slice none 0 0] 25)).drew := ⟨_, rfl⟩
    have hA : Below w2.heap.size w2 V0 := by rw [hV0]; exact ((Below.refl _ _).alloc (Nat.le_refl _) _).drew
    replace A8 : Box4 V0 w2.heap.size (.bool false) (.slice none 0 0) (.slice none 0 0) (.slice none 0 0) := by rw [hV0]; exact A8.drew
    replace A3 := A3.below hA
    replace A5 := A5.below hA
    have h6lt : w.heap.size + 2 < w2.heap.size := A6.lt
    replace A6 := A6.below hA
    replace HB := Below.tr HB hA
    have h8B : w2.heap.size < V0.heap.size := A8.lt
    clear q0 q1 q2 q3 p0 p1 p2 p3 Q0
    generalize w2.heap.size = h8 at *
    refine region_last (by kernel_rfl) 15 (innV w.heap.size (w.heap.size + 1) V0.heap.size (n + 1 + m) (n'' + m'') (.slice a n c) (.slice e m f) (.slice a'' n'' c'') (.slice e'' m'' f'') key XS YS) (fun u => Below V0.heap.size V0 u) (InnT h8 V0.heap.size (n + 1 + m) (n'' + m'') XS YS V0) (fun u u' => Turns (fun k => k = h8) u u') (by kernel_rfl) (by kernel_rfl) (fun i v u u' t hv => innV_mono h8B i v u u' t hv) (by rw [← hV0]; exact Below.refl _ _) ?step ?done
    case step =>
      intro i o ho ac u hS hdf hsz hdep hsame
      have B3 := A3.below hS
      have B5 := A5.below hS
      have B8 := A8.below hS
      have hsz0 : V0.heap.size ≤ u.heap.size := hS.size
      have HU : Hid (Below w.heap.size w u) := Below.tr HB hS
      obtain ⟨⟨q0, q1, q2, q3⟩, -⟩ := id B3
      obtain ⟨⟨p0, p1, p2, p3⟩, -⟩ := id B5
      obtain ⟨⟨r0, r1, r2, r3⟩, g0, g1, g2, g3⟩ := id B8
      match i, ho with
      | 0, ho =>
        cases ho
        have h3 := hsame 3 rfl
        exact op_value rfl (wanted_free rfl) (by clear hdep hsame hsz hdf; go_simp) rfl (by rw [if_neg (by decide)]; exact hS) (Turns.refl _ _)
      | 1, ho =>
        cases ho
        obtain ⟨_, h40, rfl⟩ := hdep 0 _ 40 rfl rfl rfl
        exact op_value rfl (wanted_free rfl) (by clear hdep hsame hsz hdf; go_simp) rfl (by rw [if_neg (by decide)]; exact hS) (Turns.refl _ _)
      | 2, ho =>
        cases ho
        have h1 := hsame 1 rfl
        exact op_value rfl (wanted_free rfl) (by clear hdep hsame hsz hdf; go_simp) rfl (by rw [if_neg (by decide)]; exact hS) (Turns.refl _ _)
      | 3, ho =>
        cases ho
        obtain ⟨_, h42, rfl⟩ := hdep 2 _ 42 rfl rfl rfl
        exact op_value (v := .slice (some ⟨u.heap.size, 0, none⟩) 1 1) (w' := u.alloc (.cells #[.string key] 9)) rfl (wanted_free rfl) (by clear hdep hsame hsz hdf; go_simp) ⟨u.heap.size, rfl, hsz0, World.cell?_alloc_at _ _ _ _ rfl⟩ (by rw [if_neg (by decide)]; exact hS.alloc hsz0 _) ((Turns.refl _ _).alloc _)
      | 4, ho =>
        cases ho
        have h5 := hsame 5 rfl
        exact op_value rfl (wanted_free rfl) (by clear hdep hsame hsz hdf; go_simp) rfl (by rw [if_neg (by decide)]; exact hS) (Turns.refl _ _)
      | 5, ho =>
        cases ho
        obtain ⟨_, h44, rfl⟩ := hdep 4 _ 44 rfl rfl rfl
        exact op_value rfl (wanted_free rfl) (by clear hdep hsame hsz hdf; go_simp) rfl (by rw [if_neg (by decide)]; exact hS) (Turns.refl _ _)
      | 6, ho =>
        cases ho
        obtain ⟨_, h41, rfl⟩ := hdep 1 _ 41 rfl rfl rfl
        obtain ⟨_, h43, k, rfl, hk, kc⟩ := hdep 3 _ 43 rfl rfl rfl
        obtain ⟨_, h45, rfl⟩ := hdep 5 _ 45 rfl rfl rfl
        exact op_value (v := .slice (some ⟨u.heap.size, 0, none⟩) 3 3) (w' := u.alloc (.cells #[.slice a n c, .slice (some ⟨k, 0, none⟩) 1 1, .slice e m f] 22)) rfl (wanted_free rfl) (by clear hdep hsame hsz hdf; go_simp) ⟨u.heap.size, k, rfl, hsz0, hk, World.cell?_alloc_at _ _ _ _ rfl, World.cell?_alloc_at _ _ _ _ rfl, World.cell?_alloc_at _ _ _ _ rfl, cell_alloc kc _⟩ (by rw [if_neg (by decide)]; exact hS.alloc hsz0 _) ((Turns.refl _ _).alloc _)
      | 7, ho =>
        cases ho
        obtain ⟨_, h46, g, k, rfl, hg, hk, k0, k1, k2, k3⟩ := hdep 6 _ 46 rfl rfl rfl
        refine op_call (w' := u) rfl (wanted_free rfl) (by clear hdep hsame hsz hdf; go_simp) ((cJ u g k HU.out k0 k1 k2 k3).mono ?_)
        rintro y u' ⟨p, q, rfl, i1, j1, hb⟩
        exact ⟨_, rfl, ⟨p, q, rfl, i1, j1.mono hsz0⟩, by rw [if_neg (by decide)]; exact hS.trans (hb.mono hsz0), Turns.of_below hb⟩
      | 8, ho =>
        cases ho
        have h3 := hsame 3 rfl
        exact op_value rfl (wanted_free rfl) (by clear hdep hsame hsz hdf; go_simp) rfl (by rw [if_neg (by decide)]; exact hS) (Turns.refl _ _)
      | 9, ho =>
        cases ho
        obtain ⟨_, h48, rfl⟩ := hdep 8 _ 48 rfl rfl rfl
        exact op_value rfl (wanted_free rfl) (by clear hdep hsame hsz hdf; go_simp) rfl (by rw [if_neg (by decide)]; exact hS) (Turns.refl _ _)
      | 10, ho =>
        cases ho
        have h5 := hsame 5 rfl
        exact op_value rfl (wanted_free rfl) (by clear hdep hsame hsz hdf; go_simp) rfl (by rw [if_neg (by decide)]; exact hS) (Turns.refl _ _)
      | 11, ho =>
        cases ho
        obtain ⟨_, h50, rfl⟩ := hdep 10 _ 50 rfl rfl rfl
        exact op_value rfl (wanted_free rfl) (by clear hdep hsame hsz hdf; go_simp) rfl (by rw [if_neg (by decide)]; exact hS) (Turns.refl _ _)
      | 12, ho =>
        cases ho
        obtain ⟨_, h49, rfl⟩ := hdep 9 _ 49 rfl rfl rfl
        obtain ⟨_, h51, rfl⟩ := hdep 11 _ 51 rfl rfl rfl
        exact op_value (v := .slice (some ⟨u.heap.size, 0, none⟩) 2 2) (w' := u.alloc (.cells #[.slice a'' n'' c'', .slice e'' m'' f''] 23)) rfl (wanted_free rfl) (by clear hdep hsame hsz hdf; go_simp) ⟨u.heap.size, rfl, hsz0, World.cell?_alloc_at _ _ _ _ rfl, World.cell?_alloc_at _ _ _ _ rfl⟩ (by rw [if_neg (by decide)]; exact hS.alloc hsz0 _) ((Turns.refl _ _).alloc _)
      | 13, ho =>
        cases ho
        obtain ⟨_, h52, g, rfl, hg, k0, k1⟩ := hdep 12 _ 52 rfl rfl rfl
        refine op_call (w' := u) rfl (wanted_free rfl) (by clear hdep hsame hsz hdf; go_simp) ((cJ' u g HU.out k0 k1).mono ?_)
        rintro y u' ⟨p, q, rfl, i1, j1, hb⟩
        exact ⟨_, rfl, ⟨p, q, rfl, i1, j1.mono hsz0⟩, by rw [if_neg (by decide)]; exact hS.trans (hb.mono hsz0), Turns.of_below hb⟩
      | 14, ho =>
        cases ho
        obtain ⟨_, h47, G1⟩ := hdep 7 _ 47 rfl rfl rfl
        obtain ⟨_, h53, G2⟩ := hdep 13 _ 53 rfl rfl rfl
        obtain ⟨x1, y1, rfl, i1, j1⟩ := id G1
        obtain ⟨x2, y2, rfl, i2, j2⟩ := id G2
        exact op_value (v := .agg #[.bool false, .slice x1 (n + 1 + m) y1, .slice none 0 0, .slice x2 (n'' + m'') y2]) rfl (wanted_free rfl) (by clear hdep hsame hsz hdf G1 G2 i1 i2 j1 j2; go_simp) ⟨_, _, rfl, G1, G2⟩ (by rw [if_neg (by decide)]; exact hS) (Turns.refl _ _)
      | 15, ho =>
        cases ho
        have hp8 := hsame 8 rfl
        obtain ⟨_, h54, u1, u2, rfl, G1, G2⟩ := hdep 14 _ 54 rfl rfl rfl
        obtain ⟨x1, y1, rfl, i1, j1⟩ := id G1
        obtain ⟨x2, y2, rfl, i2, j2⟩ := id G2
        have T4 := turns_put4 u h8 (.bool false) (.slice x1 (n + 1 + m) y1) (.slice none 0 0) (.slice x2 (n'' + m'') y2)
        have HT : InnT h8 V0.heap.size (n + 1 + m) (n'' + m'') XS YS V0 ((((u.setCell ⟨h8, 0, none⟩ (.bool false)).setCell ⟨h8, 1, none⟩ (.slice x1 (n + 1 + m) y1)).setCell ⟨h8, 2, none⟩ (.slice none 0 0)).setCell ⟨h8, 3, none⟩ (.slice x2 (n'' + m'') y2)) := ⟨_, _, B8.put _ _ _ _, G1.turns h8B T4, G2.turns h8B T4, (Turns.of_below hS).trans T4⟩
        exact op_skip rfl (wanted_free rfl) rfl (by clear hdep hsame hsz hdf G1 G2 i1 i2 j1 j2 T4 HT; go_simp) trivial (by rw [if_pos rfl]; exact HT) T4
      | k + 16, ho => simp at ho
    case done =>
      intro ac W3 hT hdf hsz hsame hval
      obtain ⟨v40, h40, hv40⟩ := hval 0 _ 40 rfl rfl
      obtain ⟨v41, h41, hv41⟩ := hval 1 _ 41 rfl rfl
      obtain ⟨v42, h42, hv42⟩ := hval 2 _ 42 rfl rfl
      obtain ⟨v43, h43, hv43⟩ := hval 3 _ 43 rfl rfl
      obtain ⟨v44, h44, hv44⟩ := hval 4 _ 44 rfl rfl
      obtain ⟨v45, h45, hv45⟩ := hval 5 _ 45 rfl rfl
      obtain ⟨v46, h46, hv46⟩ := hval 6 _ 46 rfl rfl
      obtain ⟨v47, h47, hv47⟩ := hval 7 _ 47 rfl rfl
      obtain ⟨v48, h48, hv48⟩ := hval 8 _ 48 rfl rfl
      obtain ⟨v49, h49, hv49⟩ := hval 9 _ 49 rfl rfl
      obtain ⟨v50, h50, hv50⟩ := hval 10 _ 50 rfl rfl
      obtain ⟨v51, h51, hv51⟩ := hval 11 _ 51 rfl rfl
      obtain ⟨v52, h52, hv52⟩ := hval 12 _ 52 rfl rfl
      obtain ⟨v53, h53, hv53⟩ := hval 13 _ 53 rfl rfl
      obtain ⟨v54, h54, hv54⟩ := hval 14 _ 54 rfl rfl
      obtain rfl := Anyorder.frame_is (l := [_, _, _, _, _, _, _, _, _, _, _, _, _, _, _, _, _, _, _, _, _, _, _, _, _, _, _, _, _, _, _, _, _, _, _, _, _, _, _, _, _, _, _, _, _, _, _, _, _, _, _, _, _, _, _, _, _, _, _, _]) ⟨(hsame 0 (Anyorder.unwritten (by kernel_rfl))).trans rfl, (hsame 1 (Anyorder.unwritten (by kernel_rfl))).trans rfl, (hsame 2 (Anyorder.unwritten (by kernel_rfl))).trans rfl, (hsame 3 (Anyorder.unwritten (by kernel_rfl))).trans rfl, (hsame 4 (Anyorder.unwritten (by kernel_rfl))).trans rfl, (hsame 5 (Anyorder.unwritten (by kernel_rfl))).trans rfl, (hsame 6 (Anyorder.unwritten (by kernel_rfl))).trans rfl, (hsame 7 (Anyorder.unwritten (by kernel_rfl))).trans rfl, (hsame 8 (Anyorder.unwritten (by kernel_rfl))).trans rfl, (hsame 9 (Anyorder.unwritten (by kernel_rfl))).trans rfl, (hsame 10 (Anyorder.unwritten (by kernel_rfl))).trans rfl, (hsame 11 (Anyorder.unwritten (by kernel_rfl))).trans rfl, (hsame 12 (Anyorder.unwritten (by kernel_rfl))).trans rfl, (hsame 13 (Anyorder.unwritten (by kernel_rfl))).trans rfl, (hsame 14 (Anyorder.unwritten (by kernel_rfl))).trans rfl, (hsame 15 (Anyorder.unwritten (by kernel_rfl))).trans rfl, (hsame 16 (Anyorder.unwritten (by kernel_rfl))).trans rfl, (hsame 17 (Anyorder.unwritten (by kernel_rfl))).trans rfl, (hsame 18 (Anyorder.unwritten (by kernel_rfl))).trans rfl, (hsame 19 (Anyorder.unwritten (by kernel_rfl))).trans rfl, (hsame 20 (Anyorder.unwritten (by kernel_rfl))).trans rfl, (hsame 21 (Anyorder.unwritten (by kernel_rfl))).trans rfl, (hsame 22 (Anyorder.unwritten (by kernel_rfl))).trans rfl, (hsame 23 (Anyorder.unwritten (by kernel_rfl))).trans rfl, (hsame 24 (Anyorder.unwritten (by kernel_rfl))).trans rfl, (hsame 25 (Anyorder.unwritten (by kernel_rfl))).trans rfl, (hsame 26 (Anyorder.unwritten (by kernel_rfl))).trans rfl, (hsame 27 (Anyorder.unwritten (by kernel_rfl))).trans rfl, (hsame 28 (Anyorder.unwritten (by kernel_rfl))).trans rfl, (hsame 29 (Anyorder.unwritten (by kernel_rfl))).trans rfl, (hsame 30 (Anyorder.unwritten (by kernel_rfl))).trans rfl, (hsame 31 (Anyorder.unwritten (by kernel_rfl))).trans rfl, (hsame 32 (Anyorder.unwritten (by kernel_rfl))).trans rfl, (hsame 33 (Anyorder.unwritten (by kernel_rfl))).trans rfl, (hsame 34 (Anyorder.unwritten (by kernel_rfl))).trans rfl, (hsame 35 (Anyorder.unwritten (by kernel_rfl))).trans rfl, (hsame 36 (Anyorder.unwritten (by kernel_rfl))).trans rfl, (hsame 37 (Anyorder.unwritten (by kernel_rfl))).trans rfl, (hsame 38 (Anyorder.unwritten (by kernel_rfl))).trans rfl, (hsame 39 (Anyorder.unwritten (by kernel_rfl))).trans rfl, h40, h41, h42, h43, h44, h45, h46, h47, h48, h49, h50, h51, h52, h53, h54, (hsame 55 (Anyorder.unwritten (by kernel_rfl))).trans rfl, (hsame 56 (Anyorder.unwritten (by kernel_rfl))).trans rfl, (hsame 57 (Anyorder.unwritten (by kernel_rfl))).trans rfl, (hsame 58 (Anyorder.unwritten (by kernel_rfl))).trans rfl, (hsame 59 (Anyorder.unwritten (by kernel_rfl))).trans rfl, trivial⟩ hdf hsz
      obtain ⟨u1, u2, X8, ⟨x1, y1, rfl, i1, j1⟩, ⟨x2, y2, rfl, i2, j2⟩, T3⟩ := hT
      have I1 : Hid (IsS W3 x1 y1 XS) := i1
      have I2 : Hid (IsI W3 x2 y2 YS) := i2
      have J1 : Hid (From V0.heap.size x1) := j1
      have J2 : Hid (From V0.heap.size x2) := j2
      have B3 : Hid (Below w.heap.size w W3) := Below.turns HB T3 (fun k hk => by omega)
      have X6 := A6.turns T3 (by omega)
      have c4 := c3 W3 x1 y1 x2 y2 i1 i2
      obtain ⟨⟨q0, q1, q2, q3⟩, -⟩ := id X8
      clear hval hsame hsz hdf i1 i2 j1 j2 A3 A5 A6 A8 HB hV0 hA T3
      go_wp2_with (go_at_call 31; refine c4.mono ?_; rintro y w5 ⟨rfl, hb⟩; replace X8 := X8.below hb; replace X6 := X6.below hb; replace B3 : Hid (Below w.heap.size w w5) := Below.tr B3.out hb; replace I1 : Hid (IsS w5 x1 y1 XS) := I1.out.below hb; replace I2 : Hid (IsI w5 x2 y2 YS) := I2.out.below hb; clear q0 q1 q2 q3; obtain ⟨⟨q0, q1, q2, q3⟩, -⟩ := id X8; obtain ⟨⟨r0, r1, r2, r3⟩, g0, g1, g2, g3⟩ := id X6; clear hb)
      have T4 := turns_put4 w5 (w.heap.size + 2) (.bool false) (.slice none 0 0) (.slice none 0 0) (.slice none 0 0)
      exact bodyPost_ret (v := .tuple #[.agg #[.bool false, .slice none 0 0, .slice none 0 0, .slice none 0 0], .int .i64 1]) (by simp [results, Try.results22, go_sem, r0, r1, r2, r3]) rfl (answers_none (Below.turns B3.out T4 (fun k hk => by omega)))

set_option maxRecDepth 20000 in
set_option maxHeartbeats 4000000 in
/-- JOIN, of nodes that are refused at once. -/
theorem joinBad_any (l l2 : Bool) (a a' a'' e e' e'' : Option Addr) (c c' c'' f f' f'' n n' n'' m m' m'' : Nat) (ks vs ks2 vs2 : List ByteArray) (cs cs2 : List Int) (key : ByteArray) (w : World)
    (hn : n = ks.length) (hn' : n' = vs.length) (hn'' : n'' = cs.length) (hK : IsS w a c ks) (hV : IsS w a' c' vs) (hC : IsI w a'' c'' cs)
    (hm : m = ks2.length) (hm' : m' = vs2.length) (hm'' : m'' = cs2.length) (hK2 : IsS w e f ks2) (hV2 : IsS w e' f' vs2) (hC2 : IsI w e'' f'' cs2)
    (hbad : ¬ (standsN l ks vs cs = true ∧ standsN l2 ks2 vs2 cs2 = true ∧ l = l2)) :
    Calls Try.prog 22 #[.agg #[.bool l, .slice a n c, .slice a' n' c', .slice a'' n'' c''], .string key, .agg #[.bool l2, .slice e m f, .slice e' m' f', .slice e'' m'' f'']] w fun x w' => Answers w x w' false [] [] [] 1 := by
  obtain ⟨W, hW⟩ : ∃ W, W = ((w.alloc (.cells #[.bool l, .slice a n c, .slice a' n' c', .slice a'' n'' c''] 25)).alloc (.cells #[.bool l2, .slice e m f, .slice e' m' f', .slice e'' m'' f''] 25)).alloc (.cells #[.bool false, .slice none 0 0, .slice none 0 0, .slice none 0 0] 25) := ⟨_, rfl⟩
  have A3 : Box4 W w.heap.size (.bool l) (.slice a n c) (.slice a' n' c') (.slice a'' n'' c'') := by rw [hW]; exact ((box4_new _ _ _ _ _ _ rfl).alloc _).alloc _
  have A5 : Box4 W (w.heap.size + 1) (.bool l2) (.slice e m f) (.slice e' m' f') (.slice e'' m'' f'') := by rw [hW]; exact (box4_new _ _ _ _ _ _ (by simp)).alloc _
  have A6 : Box4 W (w.heap.size + 2) (.bool false) (.slice none 0 0) (.slice none 0 0) (.slice none 0 0) := by rw [hW]; exact box4_new _ _ _ _ _ _ (by simp)
  have HB : Below w.heap.size w W := by rw [hW]; exact (((Below.refl _ _).alloc (Nat.le_refl _) _).alloc (by simp) _).alloc (by simp; omega) _
  have c1 : ∀ V, Below w.heap.size w V → Calls Try.prog 31 #[.agg #[.bool l, .slice a n c, .slice a' n' c', .slice a'' n'' c'']] V fun e w' => e = .returned (.bool (standsN l ks vs cs)) ∧ Below V.heap.size V w' := fun V h => mayStand_any l a a' a'' c c' c'' n n' n'' ks vs cs V hn hn' hn'' (hK.below h) (hV.below h) (hC.below h)
  have c2 : ∀ V, Below w.heap.size w V → Calls Try.prog 31 #[.agg #[.bool l2, .slice e m f, .slice e' m' f', .slice e'' m'' f'']] V fun e w' => e = .returned (.bool (standsN l2 ks2 vs2 cs2)) ∧ Below V.heap.size V w' := fun V h => mayStand_any l2 e e' e'' f f' f'' m m' m'' ks2 vs2 cs2 V hm hm' hm'' (hK2.below h) (hV2.below h) (hC2.below h)
  clear hn hn' hn'' hm hm' hm'' hK hV hC hK2 hV2 hC2
  have hle : w.heap.size ≤ w.heap.size + 2 := by omega
  have tok1 : True := trivial
  obtain ⟨⟨q0, q1, q2, q3⟩, -⟩ := id A3
  obtain ⟨⟨p0, p1, p2, p3⟩, -⟩ := id A5
  cases h1 : standsN l ks vs cs with
  | false =>
    rw [h1] at c1
    clear hbad h1 c2
    go_enter Try.func22, Try.ntmps22
    go_wp2_with (first
      | (go_at_call 31; rw [← hW]; refine (c1 _ HB).mono ?_; rintro y w1 ⟨rfl, hb⟩; replace HB := Below.tr HB hb; replace A6 := A6.below hb; obtain ⟨⟨r0, r1, r2, r3⟩, g0, g1, g2, g3⟩ := id A6; clear q0 q1 q2 q3 p0 p1 p2 p3; clear hb))
    exact bodyPost_ret (v := .tuple #[.agg #[.bool false, .slice none 0 0, .slice none 0 0, .slice none 0 0], .int .i64 1]) (by simp [results, Try.results22, go_sem, r0, r1, r2, r3]) rfl (answers_none (below_put4 HB hle _ _ _ _))
  | true =>
    rw [h1] at c1
    cases h2 : standsN l2 ks2 vs2 cs2 with
    | false =>
      rw [h2] at c2
      clear hbad h1 h2
      go_enter Try.func22, Try.ntmps22
      go_wp2_with (first
        | (go_at_call 31; have _t := tok1; rw [← hW]; refine (c1 _ HB).mono ?_; rintro y w1 ⟨rfl, hb⟩; replace HB := Below.tr HB hb; replace A3 := A3.below hb; replace A5 := A5.below hb; replace A6 := A6.below hb; clear q0 q1 q2 q3 p0 p1 p2 p3; obtain ⟨⟨q0, q1, q2, q3⟩, -⟩ := id A3; obtain ⟨⟨p0, p1, p2, p3⟩, -⟩ := id A5; clear hb tok1 _t)
        | (go_at_call 31; refine (c2 _ HB).mono ?_; rintro y w2 ⟨rfl, hb⟩; replace HB := Below.tr HB hb; replace A6 := A6.below hb; obtain ⟨⟨r0, r1, r2, r3⟩, g0, g1, g2, g3⟩ := id A6; clear q0 q1 q2 q3 p0 p1 p2 p3 hb))
      exact bodyPost_ret (v := .tuple #[.agg #[.bool false, .slice none 0 0, .slice none 0 0, .slice none 0 0], .int .i64 1]) (by simp [results, Try.results22, go_sem, r0, r1, r2, r3]) rfl (answers_none (below_put4 HB hle _ _ _ _))
    | true =>
      rw [h2] at c2
      have h3 : (l == l2) = false := by
        have : l ≠ l2 := fun h => hbad ⟨h1, h2, h⟩
        simpa using this
      have h4 : (!(l == l2)) = true := by rw [h3]; rfl
      clear hbad h1 h2
      go_enter Try.func22, Try.ntmps22
      go_wp2_with (first
        | (go_at_call 31; have _t := tok1; rw [← hW]; refine (c1 _ HB).mono ?_; rintro y w1 ⟨rfl, hb⟩; replace HB := Below.tr HB hb; replace A3 := A3.below hb; replace A5 := A5.below hb; replace A6 := A6.below hb; clear q0 q1 q2 q3 p0 p1 p2 p3; obtain ⟨⟨q0, q1, q2, q3⟩, -⟩ := id A3; obtain ⟨⟨p0, p1, p2, p3⟩, -⟩ := id A5; clear hb tok1 _t)
        | (go_at_call 31; refine (c2 _ HB).mono ?_; rintro y w2 ⟨rfl, hb⟩; replace HB := Below.tr HB hb; replace A3 := A3.below hb; replace A5 := A5.below hb; replace A6 := A6.below hb; obtain ⟨⟨r0, r1, r2, r3⟩, g0, g1, g2, g3⟩ := id A6; clear q0 q1 q2 q3 p0 p1 p2 p3; obtain ⟨⟨q0, q1, q2, q3⟩, -⟩ := id A3; obtain ⟨⟨p0, p1, p2, p3⟩, -⟩ := id A5; clear hb))
      exact bodyPost_ret (v := .tuple #[.agg #[.bool false, .slice none 0 0, .slice none 0 0, .slice none 0 0], .int .i64 1]) (by simp [results, Try.results22, go_sem, r0, r1, r2, r3]) rfl (answers_none (below_put4 HB hle _ _ _ _))

/-- JOIN, of any two nodes. -/
theorem nodeJoin_any (l l2 : Bool) (a a' a'' e e' e'' : Option Addr) (c c' c'' f f' f'' n n' n'' m m' m'' : Nat) (ks vs ks2 vs2 : List ByteArray) (cs cs2 : List Int) (key : ByteArray) (w : World)
    (hn : n = ks.length) (hn' : n' = vs.length) (hn'' : n'' = cs.length) (hK : IsS w a c ks) (hV : IsS w a' c' vs) (hC : IsI w a'' c'' cs)
    (hm : m = ks2.length) (hm' : m' = vs2.length) (hm'' : m'' = cs2.length) (hK2 : IsS w e f ks2) (hV2 : IsS w e' f' vs2) (hC2 : IsI w e'' f'' cs2) (hkey : key.size ≤ maxLen) :
    Calls Try.prog 22 #[.agg #[.bool l, .slice a n c, .slice a' n' c', .slice a'' n'' c''], .string key, .agg #[.bool l2, .slice e m f, .slice e' m' f', .slice e'' m'' f'']] w fun x w' =>
      Answers w x w' (joinL l ks vs cs key l2 ks2 vs2 cs2) (joinKs l ks vs cs key l2 ks2 vs2 cs2) (joinVs l ks vs cs key l2 ks2 vs2 cs2) (joinCs l ks vs cs key l2 ks2 vs2 cs2) (joinE l ks vs cs key l2 ks2 vs2 cs2) := by
  by_cases hb : standsN l ks vs cs = true ∧ standsN l2 ks2 vs2 cs2 = true ∧ l = l2
  · obtain ⟨h1, h2, rfl⟩ := hb
    cases l with
    | true =>
      have z1 := (leaf_one_eq h1).1
      have z2 := (leaf_one_eq h2).1
      refine (joinLeaf_any a a' a'' e e' e'' c c' c'' f f' f'' n n' n'' m m' m'' ks vs ks2 vs2 cs cs2 key w hn hn' hn'' hK hV hC hm hm' hm'' hK2 hV2 hC2 h1 h2).mono fun x w' h => ?_
      have hj : joinK true ks key ks2 = ks ++ ks2 := by unfold joinK; rw [if_pos rfl]
      have hc : cs ++ cs2 = [] := by rw [z1, z2]; rfl
      by_cases h3 : standsN true (ks ++ ks2) (vs ++ vs2) [] = true
      · rw [if_pos h3] at h
        have hE : joinE true ks vs cs key true ks2 vs2 cs2 = 0 := by unfold joinE; rw [if_pos ⟨h1, h2, rfl, by rw [hj, hc]; exact h3⟩]
        unfold joinL joinKs joinVs joinCs
        rw [hE, if_pos rfl, if_pos rfl, if_pos rfl, if_pos rfl, hj, hc]
        exact h
      · rw [if_neg h3] at h
        have hE : joinE true ks vs cs key true ks2 vs2 cs2 = 1 := by unfold joinE; rw [if_neg (fun hh => h3 (by have := hh.2.2.2; rw [hj, hc] at this; exact this))]
        unfold joinL joinKs joinVs joinCs
        rw [hE, if_neg (by decide), if_neg (by decide), if_neg (by decide), if_neg (by decide)]
        exact h
    | false =>
      have z1 := (inner_one_eq h1).1
      have z2 := (inner_one_eq h2).1
      refine (joinInner_any a a' a'' e e' e'' c c' c'' f f' f'' n n' n'' m m' m'' ks vs ks2 vs2 cs cs2 key w hn hn' hn'' hK hV hC hm hm' hm'' hK2 hV2 hC2 h1 h2 hkey).mono fun x w' h => ?_
      have hj : joinK false ks key ks2 = ks ++ key :: ks2 := by unfold joinK; rw [if_neg (by decide)]
      have hc : vs ++ vs2 = [] := by rw [z1, z2]; rfl
      by_cases h3 : standsN false (ks ++ key :: ks2) [] (cs ++ cs2) = true
      · rw [if_pos h3] at h
        have hE : joinE false ks vs cs key false ks2 vs2 cs2 = 0 := by unfold joinE; rw [if_pos ⟨h1, h2, rfl, by rw [hj, hc]; exact h3⟩]
        unfold joinL joinKs joinVs joinCs
        rw [hE, if_pos rfl, if_pos rfl, if_pos rfl, if_pos rfl, hj, hc]
        exact h
      · rw [if_neg h3] at h
        have hE : joinE false ks vs cs key false ks2 vs2 cs2 = 1 := by unfold joinE; rw [if_neg (fun hh => h3 (by have := hh.2.2.2; rw [hj, hc] at this; exact this))]
        unfold joinL joinKs joinVs joinCs
        rw [hE, if_neg (by decide), if_neg (by decide), if_neg (by decide), if_neg (by decide)]
        exact h
  · have hE : joinE l ks vs cs key l2 ks2 vs2 cs2 = 1 := by unfold joinE; rw [if_neg (fun hh => hb ⟨hh.1, hh.2.1, hh.2.2.1⟩)]
    unfold joinL joinKs joinVs joinCs
    rw [hE, if_neg (by decide), if_neg (by decide), if_neg (by decide), if_neg (by decide)]
    exact joinBad_any l l2 a a' a'' e e' e'' c c' c'' f f' f'' n n' n'' m m' m'' ks vs ks2 vs2 cs cs2 key w hn hn' hn'' hK hV hC hm hm' hm'' hK2 hV2 hC2 hb

end Go.Proofs.Ytmhnnfmggdohkaa

/-
  Texts laid together: AllocRefNew, GrowEmpty, GrowLaw.
-/
import Derived.Test.YtaecfbfcjaailaaGreatBdD
import Derived.Test.YtaecfbfcjaailaaGreatBdG
namespace Go.Proofs.YtaecfbfcjaailaaGreat
open Go.RowKit Plain
set_option linter.unusedVariables false

/-- One place more at the end of a row of the call's own. -/
theorem push_T (W : World) (base : Nat) (v : Value) (n : Nat) (l : List Bool) (x : Bool) (hown : W.ownsRow base 4 1 v n (l.map Value.bool)) (hb : base ≤ W.heap.size) (hn : n ≤ 4096) :
    ∃ g cap w', (Builtin.append_ #[22, 22] 22 #[v, .slice (some ⟨W.heap.size, 0, none⟩) 1 1]).run Tryz.prog (W.alloc (.cells #[.bool x] 4)) = .ok (.slice (some ⟨g, 0, none⟩) (n + 1) cap) w' ∧
      w'.ownsRow base 4 1 (.slice (some ⟨g, 0, none⟩) (n + 1) cap) (n + 1) ((l ++ [x]).map Value.bool) ∧ (W.alloc (.cells #[.bool x] 4)).grownBy w' v.ownBlock ∧ (v.ownBlock = some g ∨ g = W.heap.size + 1) ∧ base ≤ g := by
  obtain ⟨i0, hi, hz0, hz1, hz2⟩ := info_parts Tryz.info4
  obtain ⟨g, cap, w', h1, h2, h3, h4, h5⟩ := run_append_lies (P := Tryz.prog) (W.alloc (.cells #[.bool x] 4)) 22 22 base 4 i0 _ 1 1 Tryz.underlying22 hi hz0 hz1 hz2 rfl (by decide) v n (l.map Value.bool) (hown.alloc _) ⟨W.heap.size, 0, none⟩ 1 1 [.bool x] rfl
    (by
      intro j u hj
      match j, hj with
      | 0, hj => simp at hj; subst hj; rw [at_add]; exact World.cell?_alloc_at _ _ _ _ rfl)
    (by intro u hu; simp at hu; subst hu; rfl) (by omega) (by unfold maxLen; omega) (by omega) (by simp; omega) (W.heap.size + 1) (by simp)
  refine ⟨g, cap, w', h1, by rw [List.map_append]; exact h2, h3, h4, ?_⟩
  obtain ⟨g', cap', he, hb', _⟩ := h2.form (by omega)
  cases he
  exact hb'

theorem own_span {w : World} {base : Nat} {e : TypeId} {s n : Nat} {v : Value} {xs : List Value} (h : w.ownsRow base e s v n xs) {g : Nat} (hg : v.ownBlock = some g) : base ≤ g ∧ g < w.heap.size := h.lt g hg

/-- What a push keeps of an elder box. -/
theorem Box2.grown {w w' : World} {row : Option Nat} {h : Nat} {v0 v1 : Value} (b : Box2 w h v0 v1) (hg : w.grownBy w' row) (hr : ∀ k, row = some k → h < k) : Box2 w' h v0 v1 := by
  have hl := b.lt
  have hb : w'.heap[h]? = w.heap[h]? := hg.block h hl (fun he => by have := hr h he.symm; omega)
  obtain ⟨⟨c0, c1⟩, f0, f1⟩ := b
  exact ⟨⟨by rw [World.cell?_of_block (w := w) hb]; exact c0, by rw [World.cell?_of_block (w := w) hb]; exact c1⟩, by rw [World.frozen?_of_block (w := w) hb]; exact f0, by rw [World.frozen?_of_block (w := w) hb]; exact f1⟩

theorem Box2.set0 {w : World} {h : Nat} {v0 v1 : Value} (b : Box2 w h v0 v1) (u : Value) : Box2 (w.setCell ⟨h, 0, none⟩ u) h u v1 := by
  obtain ⟨⟨c0, c1⟩, f0, f1⟩ := b
  refine ⟨⟨World.cell?_setCell_same _ _ _ c0, ?_⟩, by simpa using f0, by simpa using f1⟩
  rw [World.cell?_setCell_other _ _ _ _ (fun hh => by cases hh)]; exact c1

theorem Box2.set1 {w : World} {h : Nat} {v0 v1 : Value} (b : Box2 w h v0 v1) (u : Value) : Box2 (w.setCell ⟨h, 1, none⟩ u) h v0 u := by
  obtain ⟨⟨c0, c1⟩, f0, f1⟩ := b
  refine ⟨⟨?_, World.cell?_setCell_same _ _ _ c1⟩, by simpa using f0, by simpa using f1⟩
  rw [World.cell?_setCell_other _ _ _ _ (fun hh => by cases hh)]; exact c0

theorem own_below {w : World} {B : Nat} {e : TypeId} {n h i m : Nat} {v : Value} {xs : List Value} {u : Value} (hr : w.ownsRow B e m v n xs) (hh : h < B) : (w.setCell ⟨h, i, none⟩ u).ownsRow B e m v n xs :=
  ownsRow_setCell_below hr (a := ⟨h, i, none⟩) hh u

theorem ownT_of {w : World} {base : Nat} {v : Value} {n : Nat} {l : List Bool} (hl : l.length = n) (h : w.ownsRow base 4 1 v n (l.map Value.bool)) : ∃ a c, v = .slice a n c ∧ OwnT base w a c l := by
  subst hl
  rcases ownsRow_T h with ⟨rfl, rfl⟩ | ⟨g, cap, rfl, hg, hr⟩
  · exact ⟨none, 0, rfl, OwnT_nil _ _⟩
  · exact ⟨_, _, rfl, .inr ⟨g, rfl, hg, hr⟩⟩

set_option maxRecDepth 20000 in
set_option maxHeartbeats 4000000 in
/-- The document's own NEW, of numbers that are not too great. -/
theorem allocRefNewF_any (n : Nat) (w : World) (hn : n ≤ 2048) :
    Calls Tryz.prog 35 #[.int .i64 n] w fun e w' => ∃ a1 c1 a2 c2, e = .returned (.agg #[.slice a1 n c1, .slice a2 n c2]) ∧ OwnT w.heap.size w' a1 c1 (freshL n) ∧ OwnT w.heap.size w' a2 c2 (freshL n) ∧ Below w.heap.size w w' := by
  obtain ⟨W, hW⟩ : ∃ W, W = (w.alloc (.cells #[.slice none 0 0, .slice none 0 0] 24)).alloc (.cells #[.slice none 0 0, .slice none 0 0] 24) := ⟨_, rfl⟩
  obtain ⟨hB0, hWs, bo, bi⟩ := two_box2 hW
  go_enter Tryz.func35, Tryz.ntmps35
  go_wp2
  rw [← hW]
  go_loopw [4] (fun v wr => ∃ (j : Nat) (v0 v1 : Value), j ≤ n ∧ v = .int .i64 j ∧ Box2 wr w.heap.size (.slice none 0 0) (.slice none 0 0) ∧ Box2 wr (w.heap.size + 1) v0 v1 ∧ wr.ownsRow (w.heap.size + 2) 4 1 v0 j ((freshL j).map Value.bool) ∧ wr.ownsRow (w.heap.size + 2) 4 1 v1 j ((freshL j).map Value.bool) ∧ (∀ g, v0.ownBlock = some g → v1.ownBlock ≠ some g) ∧ Below w.heap.size w wr ∧ w.heap.size + 2 ≤ wr.heap.size) (fun v _ => n - (intOf v).toNat)
  case atStart =>
    refine ⟨0, .slice none 0 0, .slice none 0 0, by omega, rfl, bo, bi, ⟨rfl, .inl ⟨rfl, rfl⟩⟩, ⟨rfl, .inl ⟨rfl, rfl⟩⟩, fun g hg => (by simp [Value.ownBlock] at hg), hB0, by omega⟩
  case round =>
    obtain ⟨j, v0, v1, hj, rfl, box, bix, hr0, hr1, hap, hbel, hsz⟩ := hrel
    by_cases hlt : j < n
    · have hlt' : (j : Int) < n := by omega
      obtain ⟨x, hx⟩ : ∃ x, x = decide ((j : Int) < 10) := ⟨_, rfl⟩
      have hnx : freshL (j + 1) = freshL j ++ [x] := by rw [freshL_succ, hx]; congr 2; rw [decide_eq_decide]; omega
      obtain ⟨g0, cap0, w1, run0, own0, gr0, at0, ge0⟩ := push_T wr (w.heap.size + 2) v0 j (freshL j) x hr0 hsz (by omega)
      have hrow0 : ∀ k, v0.ownBlock = some k → w.heap.size + 1 < k := fun k hk => by have := (own_span hr0 hk).1; omega
      have box1 : Box2 w1 w.heap.size (.slice none 0 0) (.slice none 0 0) := (box.alloc _).grown gr0 (fun k hk => by have := hrow0 k hk; omega)
      have bix1 : Box2 w1 (w.heap.size + 1) v0 v1 := (bix.alloc _).grown gr0 hrow0
      have hr1' : w1.ownsRow (w.heap.size + 2) 4 1 v1 j ((freshL j).map Value.bool) := (hr1.alloc _).kept gr0 (by
        cases h : v1.ownBlock with
        | none => exact .inl rfl
        | some k => exact .inr (fun he => hap k he.symm h))
      have hap1 : ∀ k, v1.ownBlock = some k → k ≠ g0 := by
        intro k hk he
        subst he
        rcases at0 with h | h
        · exact hap k h hk
        · have := (own_span hr1 hk).2; omega
      have hb1 : Below w.heap.size w w1 := (hbel.alloc (by omega) _).grown gr0 (by simp; omega) (fun k hk => by have := hrow0 k hk; omega)
      have hsz1 : w.heap.size + 2 ≤ w1.heap.size := by have := (own_span own0 rfl).2; have := gr0.size; simp at this; omega
      obtain ⟨W2, hW2⟩ : ∃ W2, W2 = w1.setCell ⟨w.heap.size + 1, 0, none⟩ (.slice (some ⟨g0, 0, none⟩) (j + 1) cap0) := ⟨_, rfl⟩
      have own0' : W2.ownsRow (w.heap.size + 2) 4 1 (.slice (some ⟨g0, 0, none⟩) (j + 1) cap0) (j + 1) ((freshL j ++ [x]).map Value.bool) := by rw [hW2]; exact own_below own0 (by omega)
      have hr1'' : W2.ownsRow (w.heap.size + 2) 4 1 v1 j ((freshL j).map Value.bool) := by rw [hW2]; exact own_below hr1' (by omega)
      have box2 : Box2 W2 w.heap.size (.slice none 0 0) (.slice none 0 0) := by
        rw [hW2]
        refine ⟨⟨?_, ?_⟩, by simpa using box1.2.1, by simpa using box1.2.2⟩
        · rw [World.cell?_setCell_other _ _ _ _ (fun hh => absurd (congrArg Addr.block hh) (by simp))]; exact box1.1.1
        · rw [World.cell?_setCell_other _ _ _ _ (fun hh => absurd (congrArg Addr.block hh) (by simp))]; exact box1.1.2
      have bix2 : Box2 W2 (w.heap.size + 1) (.slice (some ⟨g0, 0, none⟩) (j + 1) cap0) v1 := by rw [hW2]; exact bix1.set0 _
      have hb2 : Below w.heap.size w W2 := by rw [hW2]; exact hb1.setCell (p := ⟨w.heap.size + 1, 0, none⟩) (Nat.le_succ _) _
      have hsz2 : w.heap.size + 2 ≤ W2.heap.size := by rw [hW2]; simpa using hsz1
      have g0lt : g0 < W2.heap.size := (own_span own0' rfl).2
      obtain ⟨g1, cap1, w3, run1, own1, gr1, at1, ge1⟩ := push_T W2 (w.heap.size + 2) v1 j (freshL j) x hr1'' hsz2 (by omega)
      have hrow1 : ∀ k, v1.ownBlock = some k → w.heap.size + 1 < k := fun k hk => by have := (own_span hr1'' hk).1; omega
      have box3 : Box2 w3 w.heap.size (.slice none 0 0) (.slice none 0 0) := (box2.alloc _).grown gr1 (fun k hk => by have := hrow1 k hk; omega)
      have bix3 : Box2 w3 (w.heap.size + 1) (.slice (some ⟨g0, 0, none⟩) (j + 1) cap0) v1 := (bix2.alloc _).grown gr1 hrow1
      have own0'' : w3.ownsRow (w.heap.size + 2) 4 1 (.slice (some ⟨g0, 0, none⟩) (j + 1) cap0) (j + 1) ((freshL j ++ [x]).map Value.bool) := (own0'.alloc _).kept gr1 (.inr (fun he => hap1 g0 he.symm rfl))
      have hne : g0 ≠ g1 := by
        intro he
        rcases at1 with h | h
        · exact hap1 g1 h he.symm
        · omega
      have hb3 : Below w.heap.size w w3 := (hb2.alloc (by omega) _).grown gr1 (by simp; omega) (fun k hk => by have := hrow1 k hk; omega)
      have hsz3 : w.heap.size + 2 ≤ w3.heap.size := by have := gr1.size; simp at this; omega
      obtain ⟨⟨q0, q1⟩, f0, f1⟩ := bix
      have HF : Hid (∃ (v0 v1 : Value), Box2 (w3.setCell ⟨w.heap.size + 1, 1, none⟩ (.slice (some ⟨g1, 0, none⟩) (j + 1) cap1)) w.heap.size (.slice none 0 0) (.slice none 0 0) ∧ Box2 (w3.setCell ⟨w.heap.size + 1, 1, none⟩ (.slice (some ⟨g1, 0, none⟩) (j + 1) cap1)) (w.heap.size + 1) v0 v1 ∧ (w3.setCell ⟨w.heap.size + 1, 1, none⟩ (.slice (some ⟨g1, 0, none⟩) (j + 1) cap1)).ownsRow (w.heap.size + 2) 4 1 v0 (j + 1) ((freshL (j + 1)).map Value.bool) ∧ (w3.setCell ⟨w.heap.size + 1, 1, none⟩ (.slice (some ⟨g1, 0, none⟩) (j + 1) cap1)).ownsRow (w.heap.size + 2) 4 1 v1 (j + 1) ((freshL (j + 1)).map Value.bool) ∧ (∀ g, v0.ownBlock = some g → v1.ownBlock ≠ some g) ∧ Below w.heap.size w (w3.setCell ⟨w.heap.size + 1, 1, none⟩ (.slice (some ⟨g1, 0, none⟩) (j + 1) cap1)) ∧ w.heap.size + 2 ≤ (w3.setCell ⟨w.heap.size + 1, 1, none⟩ (.slice (some ⟨g1, 0, none⟩) (j + 1) cap1)).heap.size) := by
        refine ⟨.slice (some ⟨g0, 0, none⟩) (j + 1) cap0, .slice (some ⟨g1, 0, none⟩) (j + 1) cap1, ?_, bix3.set1 _, by rw [hnx]; exact own_below own0'' (by omega), by rw [hnx]; exact own_below own1 (by omega), ?_, hb3.setCell (p := ⟨w.heap.size + 1, 1, none⟩) (Nat.le_succ _) _, by simpa using hsz3⟩
        · refine ⟨⟨?_, ?_⟩, by simpa using box3.2.1, by simpa using box3.2.2⟩
          · rw [World.cell?_setCell_other _ _ _ _ (fun hh => absurd (congrArg Addr.block hh) (by simp))]; exact box3.1.1
          · rw [World.cell?_setCell_other _ _ _ _ (fun hh => absurd (congrArg Addr.block hh) (by simp))]; exact box3.1.2
        · intro g h1 h2
          simp [Value.ownBlock] at h1 h2
          omega
      obtain ⟨⟨k0, k1⟩, k2, k3⟩ := bix1
      obtain ⟨⟨s0, s1⟩, s2, s3⟩ := bix3
      have hs2 : W2.heap.size = w1.heap.size := by rw [hW2]; simp
      rw [hs2, hW2] at run1
      have t1 : True := trivial
      clear hr0 hr1 hap hbel hsz own0 gr0 at0 box1 hr1' hap1 hb1 hsz1 own0' hr1'' box2 bix2 hb2 hsz2 g0lt own1 gr1 at1 box3 own0'' hb3 hsz3 hrow0 hrow1 hnx hW2 hs2 box ge0 ge1 hne
      by_cases h10 : (j : Int) < 10
      · obtain rfl : x = true := by rw [hx]; simp [h10]
        clear hx
        go_wp2_with (first
          | (at_builtin; have _t := t1; refine Lib.wpList_append_run _ rfl _ _ _ _ rfl _ _ rfl rfl _ _ run0 ?_; clear t1)
          | (at_builtin; refine Lib.wpList_append_run _ rfl _ _ _ _ rfl _ _ rfl rfl _ _ run1 ?_))
        go_roundw
        case rel =>
          obtain ⟨u0, u1, hh⟩ := HF.out
          exact ⟨j + 1, u0, u1, by omega, by go_num, hh⟩
        case measure => simp [intOf]; omega
      · obtain rfl : x = false := by rw [hx]; simp [h10]
        clear hx
        go_wp2_with (first
          | (at_builtin; have _t := t1; refine Lib.wpList_append_run _ rfl _ _ _ _ rfl _ _ rfl rfl _ _ run0 ?_; clear t1)
          | (at_builtin; refine Lib.wpList_append_run _ rfl _ _ _ _ rfl _ _ rfl rfl _ _ run1 ?_))
        go_roundw
        case rel =>
          obtain ⟨u0, u1, hh⟩ := HF.out
          exact ⟨j + 1, u0, u1, by omega, by go_num, hh⟩
        case measure => simp [intOf]; omega
    · obtain rfl : j = n := by omega
      obtain ⟨a1, c1, rfl, O1⟩ := ownT_of (freshL_length j) hr0
      obtain ⟨a2, c2, rfl, O2⟩ := ownT_of (freshL_length j) hr1
      obtain ⟨⟨q0, q1⟩, -, -⟩ := bix
      obtain ⟨⟨r0, r1⟩, f0, f1⟩ := box
      have H1 : Hid (OwnT (w.heap.size + 2) wr a1 c1 (freshL j)) := O1
      have H2 : Hid (OwnT (w.heap.size + 2) wr a2 c2 (freshL j)) := O2
      clear hr0 hr1 hap O1 O2
      go_wp2
      refine bodyPost_ret (v := .agg #[.slice a1 j c1, .slice a2 j c2]) (by simp [results, Tryz.results35, go_sem, r0, r1]) rfl ⟨a1, c1, a2, c2, rfl, ?_, ?_, below_set2 hbel (Nat.le_refl _)⟩
      · exact ((H1.out.store (by omega) _ _).store (by omega) _ _).mono (by omega)
      · exact ((H2.out.store (by omega) _ _).store (by omega) _ _).mono (by omega)

theorem allocRefNew_any (n : Nat) (w : World) (hn : n ≤ 2048) :
    Calls Tryz.prog 35 #[.int .i64 n] w fun e w' => ∃ a1 c1 a2 c2, e = .returned (.agg #[.slice a1 n c1, .slice a2 n c2]) ∧ IsB w' a1 c1 (freshL n) ∧ IsB w' a2 c2 (freshL n) ∧ Below w.heap.size w w' :=
  (allocRefNewF_any n w hn).mono fun e w' ⟨a1, c1, a2, c2, h, i1, i2, hb⟩ => ⟨a1, c1, a2, c2, h, i1.isB, i2.isB, hb⟩

end Go.Proofs.YtaecfbfcjaailaaGreat

namespace Go.Proofs.YtaecfbfcjaailaaGreat
open Go.RowKit Plain
open Anylast
set_option linter.unusedVariables false

def emptyM (n : Int) : Nat := (min (max n 24) 200).toNat
def emptyG (m : Nat) : WoodS := ⟨freshL m, freshL m, List.replicate m ⟨#[]⟩, 0, 1⟩

theorem emptyM_in (n : Int) : 24 ≤ emptyM n ∧ emptyM n ≤ 200 ∧ ((emptyM n : Nat) : Int) = min (max n 24) 200 := by
  unfold emptyM
  omega

def EmpV (B m : Nat) (u : Value) (X : World) : Prop :=
  ∃ a1 c1 a2 c2 g, u = .agg #[.slice a1 m c1, .slice a2 m c2, .slice (some ⟨g, 0, none⟩) m m, .int .i64 0, .int .i64 1] ∧ OwnT B X a1 c1 (freshL m) ∧ OwnT B X a2 c2 (freshL m) ∧ IsS X (some ⟨g, 0, none⟩) m (List.replicate m ⟨#[]⟩) ∧ B ≤ g ∧ g < X.heap.size

theorem EmpV.turns {P : Nat → Prop} {B m : Nat} {u : Value} {X Y : World} (h : EmpV B m u X) (t : Turns P X Y) (hp : ∀ i, P i → i < B) : EmpV B m u Y := by
  obtain ⟨a1, c1, a2, c2, g, e, o1, o2, i3, hg, gl⟩ := h
  exact ⟨a1, c1, a2, c2, g, e, o1.turns t hp, o2.turns t hp, i3.turns t (fun x hx k => by cases hx; have h1 : g < B := hp _ k; omega), hg, Nat.lt_of_lt_of_le gl t.size⟩

def empVal (B m : Nat) (i : Nat) (v : Value) (X : World) : Prop :=
  match i with
  | 0 | 2 => v = .int .i64 m
  | 1 => ∃ a1 c1 a2 c2, v = .agg #[.slice a1 m c1, .slice a2 m c2] ∧ OwnT B X a1 c1 (freshL m) ∧ OwnT B X a2 c2 (freshL m)
  | 3 => ∃ g, v = .slice (some ⟨g, 0, none⟩) m m ∧ IsS X (some ⟨g, 0, none⟩) m (List.replicate m ⟨#[]⟩) ∧ B ≤ g ∧ g < X.heap.size
  | 4 => EmpV B m v X
  | _ => True

def EmpS (h m : Nat) (W : World) (k : Nat) (X : World) : Prop :=
  ∃ v0 v1 v2 v3 v4, Box5 X h v0 v1 v2 v3 v4 ∧ (1 ≤ k → EmpV (h + 1) m (.agg #[v0, v1, v2, v3, v4]) X) ∧ Turns (fun k => k = h) W X

theorem EmpS.lo {h m k : Nat} {W X : World} (s : EmpS h m W k X) : Turns (fun k => k = h) W X := by
  obtain ⟨_, _, _, _, _, _, _, t⟩ := s
  exact t
theorem EmpS.below {h m k : Nat} {W X Y : World} (s : EmpS h m W k X) (hb : Below X.heap.size X Y) : EmpS h m W k Y := by
  obtain ⟨v0, v1, v2, v3, v4, b, f, t⟩ := s
  exact ⟨v0, v1, v2, v3, v4, b.below hb, fun hk => (f hk).turns (P := fun _ => False) (Turns.of_below hb) (fun _ => False.elim), t.tr hb⟩
theorem EmpS.put {h m k : Nat} {W X : World} {a1 : Option Addr} {c1 : Nat} {a2 : Option Addr} {c2 g : Nat} (s : EmpS h m W k X)
    (hv : OwnT (h + 1) X a1 c1 (freshL m) ∧ OwnT (h + 1) X a2 c2 (freshL m) ∧ IsS X (some ⟨g, 0, none⟩) m (List.replicate m ⟨#[]⟩) ∧ h + 1 ≤ g ∧ g < X.heap.size) :
    EmpS h m W (k + 1) (set5 X h (.slice a1 m c1) (.slice a2 m c2) (.slice (some ⟨g, 0, none⟩) m m) (.int .i64 0) (.int .i64 1)) := by
  obtain ⟨v0, v1, v2, v3, v4, b, f, t⟩ := s
  have t2 : Turns (fun k => k = h) X (set5 X h (.slice a1 m c1) (.slice a2 m c2) (.slice (some ⟨g, 0, none⟩) m m) (.int .i64 0) (.int .i64 1)) := set5_turns (P := fun k => k = h) (Turns.refl _ _) rfl _ _ _ _ _
  have e : EmpV (h + 1) m (.agg #[.slice a1 m c1, .slice a2 m c2, .slice (some ⟨g, 0, none⟩) m m, .int .i64 0, .int .i64 1]) X := ⟨a1, c1, a2, c2, g, rfl, hv⟩
  obtain ⟨bx, f0, f1, f2, f3, f4⟩ := b
  refine ⟨_, _, _, _, _, ⟨set5_box bx _ _ _ _ _, ?_, ?_, ?_, ?_, ?_⟩, fun _ => e.turns t2 (fun i hi => by omega), t.trans t2⟩
  · unfold set5; simpa using f0
  · unfold set5; simpa using f1
  · unfold set5; simpa using f2
  · unfold set5; simpa using f3
  · unfold set5; simpa using f4

theorem isS_made (W : World) (n g : Nat) (Z : Array Value) (hZ : Z = (List.replicate n (Value.string ⟨#[]⟩)).toArray) (hn : n ≤ maxLen) (hg : g = W.heap.size) : IsS (W.alloc (.cells Z 9)) (some ⟨g, 0, none⟩) n (List.replicate n ⟨#[]⟩) := by
  subst hg hZ
  refine ⟨by simp, hn, fun j x hx => ?_⟩
  obtain ⟨hj, hx'⟩ := List.getElem?_eq_some_iff.1 hx
  have hx2 : x = ⟨#[]⟩ := by rw [List.getElem_replicate] at hx'; exact hx'.symm
  subst hx2
  simp at hj
  have hc : (W.alloc (.cells (List.replicate n (Value.string ⟨#[]⟩)).toArray 9)).cell? ⟨W.heap.size, j, none⟩ = some (.string ⟨#[]⟩) := (World.cell?_alloc_at _ _ _ _ rfl).trans (show (List.replicate n (Value.string ⟨#[]⟩)).toArray[j]? = some (.string ⟨#[]⟩) by simp [hj])
  exact ⟨W.heap.size, 0, rfl, by simp, by rw [Nat.zero_add]; exact hc, Nat.zero_le _⟩

def EmptyC (w : World) (e : Ending) (w' : World) (m : Nat) : Prop :=
  ∃ a1 c1 a2 c2 b3 c3, e = .returned (.agg #[.slice a1 m c1, .slice a2 m c2, .slice b3 m c3, .int .i64 0, .int .i64 1]) ∧ (IsB w' a1 c1 (freshL m) ∧ IsB w' a2 c2 (freshL m) ∧ IsS w' b3 c3 (List.replicate m ⟨#[]⟩)) ∧ Below w.heap.size w w'

set_option maxRecDepth 20000 in
set_option maxHeartbeats 4000000 in
/-- EMPTY. -/
theorem empty_any (n : Int) (w : World) (hwf : IntKind.i64.wrap n = n) :
    Calls Tryz.prog 23 #[.int .i64 n] w fun e w' => EmptyC w e w' (emptyM n) := by
  obtain ⟨h24, h200, hm⟩ := emptyM_in n
  generalize emptyM n = m at *
  have r1 := max_run (x := n) (y := 24) rfl
  have r2 := min_run hm.symm
  have wm : IntKind.i64.wrap (m : Int) = (m : Int) := i64_in _ (by omega) (by omega)
  obtain ⟨W, hW⟩ : ∃ W, W = w.alloc (.cells #[.slice none 0 0, .slice none 0 0, .slice none 0 0, .int .i64 0, .int .i64 0] 27) := ⟨_, rfl⟩
  have BO : Box5 W w.heap.size (.slice none 0 0) (.slice none 0 0) (.slice none 0 0) (.int .i64 0) (.int .i64 0) := by rw [hW]; exact box5_new _ _ _ _ _ _ _ (by simp)
  have HB : Below w.heap.size w W := by rw [hW]; exact (Below.refl _ _).alloc (Nat.le_refl _) _
  have hWs : W.heap.size = w.heap.size + 1 := by rw [hW]; simp
  obtain ⟨V0, hV0⟩ : ∃ X, X = W.drew := ⟨_, rfl⟩
  have hD0 : Below W.heap.size W V0 := by rw [hV0]; exact (Below.refl _ _).drew
  have hVs : V0.heap.size = w.heap.size + 1 := by rw [hV0]; exact hWs
  have hBV := Below.tr HB hD0
  obtain ⟨Z, hmk, hZ⟩ : ∃ Z : Array Value, (∀ W : World, (Instr.makeSlice 25 (.int .i64 m) (.int .i64 m)).run Tryz.prog W = .ok (.slice (some ⟨W.heap.size, 0, none⟩) m m) (W.alloc (.cells Z 9))) ∧ Hid (Z = (List.replicate m (Value.string ⟨#[]⟩)).toArray) :=
    ⟨madeCells #[.string ⟨#[]⟩] m, fun W => run_make_row' (P := Tryz.prog) 25 9 (.string ⟨#[]⟩) 16 Tryz.underlying25 Tryz.info9 rfl .i64 .i64 m (by omega) (by omega) W, made_one _ m⟩
  have cM : ∀ X : World, V0.heap.size ≤ X.heap.size → empVal (w.heap.size + 1) m 3 (.slice (some ⟨X.heap.size, 0, none⟩) m m) (X.alloc (.cells Z 9)) := fun X hX => ⟨X.heap.size, rfl, isS_made X m _ Z hZ.out (by unfold maxLen; omega) rfl, by omega, by simp⟩
  have cN : ∀ X, V0.heap.size ≤ X.heap.size → Calls Tryz.prog 35 #[.int .i64 m] X fun e w' => ∃ v, e = .returned v ∧ empVal (w.heap.size + 1) m 1 v w' ∧ Below X.heap.size X w' := fun X hX =>
    (allocRefNewF_any m X (by omega)).mono fun e w' hx => by
      obtain ⟨a1, c1, a2, c2, rfl, o1, o2, hb⟩ := hx
      exact ⟨_, rfl, ⟨a1, c1, a2, c2, rfl, o1.mono (by omega), o2.mono (by omega)⟩, hb⟩
  have S0 : EmpS w.heap.size m V0 0 V0 := ⟨_, _, _, _, _, BO.below hD0, fun h => by omega, Turns.refl _ _⟩
  clear hm hWs
  go_enter Tryz.func23, Tryz.ntmps23
  go_wp2
  rw [← hW]
  refine region_chain (by kernel_rfl) [5] (empVal (w.heap.size + 1) m) (EmpS w.heap.size m V0) (Turns (fun k => k = w.heap.size)) (by kernel_rfl) (by kernel_rfl) ?mono (by rw [← hV0]; exact S0) ?step 6 rfl ?done
  case mono =>
    intro i v X Y t hv
    unfold empVal at hv ⊢
    split at hv
    · exact hv
    · exact hv
    · obtain ⟨a1, c1, a2, c2, e, o1, o2⟩ := hv
      exact ⟨a1, c1, a2, c2, e, o1.turns t (fun i e => by omega), o2.turns t (fun i e => by omega)⟩
    · obtain ⟨g, e, i3, hg, gl⟩ := hv
      exact ⟨g, e, i3.turns t (fun x hx k => by cases hx; simp only at k; omega), hg, Nat.lt_of_lt_of_le gl t.size⟩
    · exact EmpV.turns hv t (fun i e => by omega)
    · trivial
  case step =>
    clear hW hV0 hD0 hBV S0 BO HB hVs
    intro i oo ho k a9 X hk6 hmay hS hdf hsz hdep hsame
    match i, ho with
    | 0, ho =>
      cases ho
      have h0 := hsame 0 rfl
      exact op_value rfl (wanted_free rfl) (by clear hdep hsame hsz hdf; go_simp) rfl (by rw [if_neg (by decide)]; exact hS) (Turns.refl _ _)
    | 1, ho =>
      cases ho
      obtain ⟨_, h6, rfl⟩ := hdep 0 _ 6 rfl rfl rfl
      exact op_call rfl (wanted_free rfl) (by clear hdep hsame hsz hdf; go_simp) ((cN X (hS.lo.size)).mono fun e X' hx => by
        obtain ⟨v, he, hv, hb⟩ := hx
        exact ⟨v, he, hv, by rw [if_neg (by decide)]; exact hS.below hb, Turns.of_below hb⟩)
    | 2, ho =>
      cases ho
      have h0 := hsame 0 rfl
      exact op_value rfl (wanted_free rfl) (by clear hdep hsame hsz hdf; go_simp) rfl (by rw [if_neg (by decide)]; exact hS) (Turns.refl _ _)
    | 3, ho =>
      cases ho
      obtain ⟨_, h8, rfl⟩ := hdep 2 _ 8 rfl rfl rfl
      have hA := (Below.refl X.heap.size X).alloc (Nat.le_refl _) (.cells Z 9)
      have hx := hmk X
      exact op_value (w' := X.alloc (.cells Z 9)) rfl (wanted_free rfl) (by clear hdep hsame hsz hdf; go_simp) (cM X hS.lo.size) (by rw [if_neg (by decide)]; exact hS.below hA) (Turns.of_below hA)
    | 4, ho =>
      cases ho
      obtain ⟨_, h7, ⟨a1, c1, a2, c2, rfl, o1, o2⟩⟩ := hdep 1 _ 7 rfl rfl rfl
      obtain ⟨_, h9, ⟨g, rfl, i3, hg, gl⟩⟩ := hdep 3 _ 9 rfl rfl rfl
      exact op_value rfl (wanted_free rfl) (by clear hdep hsame hsz hdf; go_simp) ⟨a1, c1, a2, c2, g, rfl, o1, o2, i3, hg, gl⟩ (by rw [if_neg (by decide)]; exact hS) (Turns.refl _ _)
    | 5, ho =>
      cases ho
      have h2 := hsame 2 rfl
      obtain ⟨_, h10, ⟨a1, c1, a2, c2, g, rfl, oo⟩⟩ := hdep 4 _ 10 rfl rfl rfl
      have hS2 := hS.put oo
      obtain ⟨v0, v1, v2, v3, v4, bx, -, tt⟩ := id hS
      obtain ⟨⟨x0, x1, x2, x3, x4⟩, f0, f1, f2, f3, f4⟩ := bx
      have hT : Turns (fun k => k = w.heap.size) X (set5 X w.heap.size (.slice a1 m c1) (.slice a2 m c2) (.slice (some ⟨g, 0, none⟩) m m) (.int .i64 0) (.int .i64 1)) := set5_turns (P := fun k => k = w.heap.size) (Turns.refl _ _) rfl _ _ _ _ _
      unfold set5 at hT hS2
      exact op_skip (w' := ((((X.setCell ⟨w.heap.size, 0, none⟩ (.slice a1 m c1)).setCell ⟨w.heap.size, 1, none⟩ (.slice a2 m c2)).setCell ⟨w.heap.size, 2, none⟩ (.slice (some ⟨g, 0, none⟩) m m)).setCell ⟨w.heap.size, 3, none⟩ (.int .i64 0)).setCell ⟨w.heap.size, 4, none⟩ (.int .i64 1)) rfl (wanted_free rfl) rfl (by clear hdep hsame hsz hdf hS2 hT; go_simp) trivial (by rw [if_pos (by decide)]; exact hS2) hT
    | k + 6, ho => simp at ho
  case done =>
    intro val X hS hV
    clear hV cN cM S0 BO
    obtain ⟨v0, v1, v2, v3, v4, bx, ev, tt⟩ := hS
    obtain ⟨a1, c1, a2, c2, g, e, o1, o2, i3, hg, gl⟩ := ev (by decide)
    have HL : Hid (Below w.heap.size w X) := Below.turns hBV tt fun i e => by omega
    have HE : Hid (EmptyC w (.returned (.agg #[v0, v1, v2, v3, v4])) X m) := ⟨a1, c1, a2, c2, _, _, by rw [e], ⟨o1.isB, o2.isB, i3⟩, HL.out⟩
    obtain ⟨⟨x0, x1, x2, x3, x4⟩, -⟩ := bx
    clear ev e o1 o2 i3 hg gl tt
    simp [filledN]
    go_wp2
    refine bodyPost_ret (v := .agg #[v0, v1, v2, v3, v4]) (by simp [results, Tryz.results23, go_sem, x0, x1, x2, x3, x4]) rfl HE.out

theorem alive_plain : (allR (emptyG 24) [(⟨#[97]⟩, ⟨#[49]⟩)]).1 = 0 ∧ (allR (emptyG 24) [(⟨#[97]⟩, ⟨#[49]⟩)]).2.root = 10 ∧ (allR (emptyG 24) [(⟨#[97]⟩, ⟨#[49]⟩)]).2.pages.length = 24 := by decide +kernel

end Go.Proofs.YtaecfbfcjaailaaGreat

namespace Go.Proofs.YtaecfbfcjaailaaGreat
open Go.RowKit Plain
set_option linter.unusedVariables false

set_option maxRecDepth 20000 in
theorem small09_any (a a' b : Option Addr) (n c n' c' p f : Nat) (root gen : Int) (w : World) (hn : n' ≤ 9223372036854775807) (hp : p ≤ 9223372036854775807) :
    Calls Tryz.prog 9 #[.agg #[.slice a n c, .slice a' n' c', .slice b p f, .int .i64 root, .int .i64 gen]] w fun e w' => e = .returned (.bool (decide (n' ≤ 300) && decide (p ≤ 300))) ∧ Below w.heap.size w w' := by
  have HB : Below w.heap.size w (w.alloc (.cells #[.slice a n c, .slice a' n' c', .slice b p f, .int .i64 root, .int .i64 gen] 27)) := (Below.refl _ _).alloc (Nat.le_refl _) _
  obtain ⟨r, hr⟩ : ∃ r, r = (decide (n' ≤ 300) && decide (p ≤ 300)) := ⟨_, rfl⟩
  rw [← hr]
  by_cases h1 : n' ≤ 300
  · have h1' : (n' : Int) ≤ 300 := by omega
    have hr' : Hid (r = decide ((p : Int) ≤ 300)) := by
      show _ = _
      rw [hr, decide_eq_true h1, Bool.true_and]
      exact decide_eq_decide.2 (by omega)
    clear hr h1
    go_enter Tryz.func9, Tryz.ntmps9
    go_wp2
    go_ret
    exact ⟨by rw [hr'.out]; rfl, HB⟩
  · have h1' : ¬ (n' : Int) ≤ 300 := by omega
    have hr' : r = false := by rw [hr, decide_eq_false h1]; rfl
    clear hr h1
    go_enter Tryz.func9, Tryz.ntmps9
    go_wp2
    go_ret
    exact ⟨rfl, HB⟩

set_option maxRecDepth 20000 in
/-- IS PAIR. -/
theorem isPair_any (key val : ByteArray) (w : World) (mk : key.size ≤ maxLen) (mv : val.size ≤ maxLen) :
    Calls Tryz.prog 13 #[.string key, .string val] w fun e w' => e = .returned (.bool (isPairB key val)) ∧ Below w.heap.size w w' := by
  have mki : key.size ≤ 9223372036854775807 := mk
  have mvi : val.size ≤ 9223372036854775807 := mv
  have HB : Below w.heap.size w w := Below.refl _ _
  obtain ⟨r, hr⟩ : ∃ r, r = isPairB key val := ⟨_, rfl⟩
  rw [← hr]
  by_cases h1 : 1 ≤ key.size
  · have h1' : (1 : Int) ≤ key.size := by omega
    by_cases h2 : key.size ≤ 32
    · have h2' : (key.size : Int) ≤ 32 := by omega
      have hr' : Hid (r = decide ((val.size : Int) ≤ 200)) := by
        show _ = _
        rw [hr, Bool.eq_iff_iff, isPairB_iff, decide_eq_true_eq]
        exact ⟨fun h => by have := h.2; omega, fun h => ⟨⟨h1, h2⟩, by omega⟩⟩
      clear hr h1 h2
      go_enter Tryz.func13, Tryz.ntmps13
      go_wp2
      go_ret
      exact ⟨by rw [hr'.out]; rfl, HB⟩
    · have h2' : ¬ (key.size : Int) ≤ 32 := by omega
      obtain rfl : r = false := by rw [hr, ← Bool.not_eq_true, isPairB_iff]; intro h; have h3 := h.1.1; have h4 := h.1.2; omega
      clear hr h1 h2
      go_enter Tryz.func13, Tryz.ntmps13
      go_wp2
      go_ret
      exact ⟨rfl, HB⟩
  · have h1' : ¬ (1 : Int) ≤ key.size := by omega
    obtain rfl : r = false := by rw [hr, ← Bool.not_eq_true, isPairB_iff]; intro h; have h3 := h.1.1; have h4 := h.1.2; omega
    clear hr h1
    go_enter Tryz.func13, Tryz.ntmps13
    go_wp2
    go_ret
    exact ⟨rfl, HB⟩

set_option maxRecDepth 20000 in
set_option maxHeartbeats 2000000 in
/-- ALIVE. -/
theorem alive09_any (w : World) : Calls Tryz.prog 10 #[] w fun e w' => e = .returned (.bool true) ∧ Below w.heap.size w w' := by
  have cE : Calls Tryz.prog 23 #[.int .i64 24] w fun e w' => EmptyC w e w' 24 := empty_any 24 w rfl
  have cP : ∀ V (a1 : Option Addr) (c1 : Nat) (a2 : Option Addr) (c2 : Nat) (b3 : Option Addr) (c3 : Nat), IsB V a1 c1 (freshL 24) → IsB V a2 c2 (freshL 24) → IsS V b3 c3 (List.replicate 24 ⟨#[]⟩) → Calls Tryz.prog 11 #[.agg #[.slice a1 24 c1, .slice a2 24 c2, .slice b3 24 c3, .int .i64 0, .int .i64 1], .string ⟨#[97]⟩, .string ⟨#[49]⟩] V fun e w' => AllC V e w' (allR (emptyG 24) [(⟨#[97]⟩, ⟨#[49]⟩)]) := fun V a1 c1 a2 c2 b3 c3 i1 i2 i3 =>
    growPut1_any a1 a2 b3 c1 c2 c3 (emptyG 24) ⟨#[97]⟩ ⟨#[49]⟩ V i1 i2 i3 (by decide) (by decide)
  obtain ⟨r1, r2, r3⟩ := alive_plain
  generalize allR (emptyG 24) [(⟨#[97]⟩, ⟨#[49]⟩)] = R at *
  obtain ⟨rE, ⟨rb, rn, rp, rr, rg⟩⟩ := R
  simp only at r1 r2 r3
  subst r1 r2
  have HR3 : Hid (rp.length = 24) := r3
  clear r3
  go_enter Tryz.func10, Tryz.ntmps10
  go_wp2_with (first
    | (go_at_call 23; refine cE.mono ?_; rintro y w1 ⟨a1, c1, a2, c2, b3, c3, rfl, ⟨i1, i2, i3⟩, HB⟩)
    | (go_at_call 11; refine (cP _ _ _ _ _ _ _ i1 i2 i3).mono ?_; rintro y w2 ⟨d1, k1, d2, k2, d3, k3, rfl, -, -, hb⟩; replace HB := (Below.tr HB hb).alloc (Below.tr HB hb).size (.cells #[.slice d1 rb.length k1, .slice d2 rn.length k2, .slice d3 24 k3, .int .i64 10, .int .i64 rg] 27); rw [HR3.out]; clear hb i1 i2 i3; obtain ⟨x0, x1, x2, x3, x4⟩ := woodBox_new w2 (.slice d1 rb.length k1) (.slice d2 rn.length k2) (.slice d3 24 k3) (.int .i64 10) (.int .i64 rg) 27 rfl))
  go_ret
  exact ⟨rfl, HB⟩

end Go.Proofs.YtaecfbfcjaailaaGreat

/-
  The document's own New.
-/
import Derived.Test.YtomjajmjooaegaaAllocRef
namespace Go.Proofs.Ytomjajmjooaegaa
open Go.RowKit Plain
set_option linter.unusedVariables false

/-- One place more at the end of a row of the call's own. -/
theorem push_T (W : World) (base : Nat) (v : Value) (n : Nat) (l : List Bool) (x : Bool) (hown : W.ownsRow base 4 1 v n (l.map Value.bool)) (hb : base ≤ W.heap.size) (hn : n ≤ 4096) :
    ∃ g cap w', (Builtin.append_ #[22, 22] 22 #[v, .slice (some ⟨W.heap.size, 0, none⟩) 1 1]).run Try.prog (W.alloc (.cells #[.bool x] 4)) = .ok (.slice (some ⟨g, 0, none⟩) (n + 1) cap) w' ∧
      w'.ownsRow base 4 1 (.slice (some ⟨g, 0, none⟩) (n + 1) cap) (n + 1) ((l ++ [x]).map Value.bool) ∧ (W.alloc (.cells #[.bool x] 4)).grownBy w' v.ownBlock ∧ (v.ownBlock = some g ∨ g = W.heap.size + 1) ∧ base ≤ g := by
  obtain ⟨i0, hi, hz0, hz1, hz2⟩ := info_parts Try.info4
  obtain ⟨g, cap, w', h1, h2, h3, h4, h5⟩ := run_append_lies (P := Try.prog) (W.alloc (.cells #[.bool x] 4)) 22 22 base 4 i0 _ 1 1 Try.underlying22 hi hz0 hz1 hz2 rfl (by decide) v n (l.map Value.bool) (hown.alloc _) ⟨W.heap.size, 0, none⟩ 1 1 [.bool x] rfl
    (by
      intro j u hj
      match j, hj with
      | 0, hj => simp at hj; subst hj; rw [at_add]; exact World.cell?_alloc_at _ _ _ _ rfl)
    (by intro u hu; simp at hu; subst hu; rfl) (by omega) (by unfold maxLen; omega) (by omega) (by simp; omega) (W.heap.size + 1) (by simp)
  refine ⟨g, cap, w', h1, by rw [List.map_append]; exact h2, h3, h4, ?_⟩
  obtain ⟨g', cap', he, hb', _⟩ := h2.form (by omega)
  cases he
  exact hb'

theorem own_lt {w : World} {base : Nat} {e : TypeId} {s n : Nat} {v : Value} {xs : List Value} (h : w.ownsRow base e s v n xs) {g : Nat} (hg : v.ownBlock = some g) : base ≤ g ∧ g < w.heap.size := h.lt g hg

/-- What a push keeps of an elder box. -/
theorem Box2.grown {w w' : World} {row : Option Nat} {h : Nat} {v0 v1 : Value} (b : Box2 w h v0 v1) (hg : w.grownBy w' row) (hr : ∀ k, row = some k → h < k) : Box2 w' h v0 v1 := by
  have hl := b.lt
  have hb : w'.heap[h]? = w.heap[h]? := hg.block h hl (fun he => by have := hr h he.symm; omega)
  obtain ⟨⟨c0, c1⟩, f0, f1⟩ := b
  exact ⟨⟨by rw [World.cell?_of_block (w := w) hb]; exact c0, by rw [World.cell?_of_block (w := w) hb]; exact c1⟩, by rw [World.frozen?_of_block (w := w) hb]; exact f0, by rw [World.frozen?_of_block (w := w) hb]; exact f1⟩

theorem Box2.set0 {w : World} {h : Nat} {v0 v1 : Value} (b : Box2 w h v0 v1) (u : Value) : Box2 (w.setCell ⟨h, 0, none⟩ u) h u v1 := by
  obtain ⟨⟨c0, c1⟩, f0, f1⟩ := b
  refine ⟨⟨World.cell?_setCell_same _ _ _ c0, ?_⟩, by simpa using f0, by simpa using f1⟩
  rw [World.cell?_setCell_other _ _ _ _ (fun hh => by cases hh)]; exact c1

theorem Box2.set1 {w : World} {h : Nat} {v0 v1 : Value} (b : Box2 w h v0 v1) (u : Value) : Box2 (w.setCell ⟨h, 1, none⟩ u) h v0 u := by
  obtain ⟨⟨c0, c1⟩, f0, f1⟩ := b
  refine ⟨⟨?_, World.cell?_setCell_same _ _ _ c1⟩, by simpa using f0, by simpa using f1⟩
  rw [World.cell?_setCell_other _ _ _ _ (fun hh => by cases hh)]; exact c0

theorem own_below {w : World} {B : Nat} {e : TypeId} {n h i m : Nat} {v : Value} {xs : List Value} {u : Value} (hr : w.ownsRow B e m v n xs) (hh : h < B) : (w.setCell ⟨h, i, none⟩ u).ownsRow B e m v n xs :=
  ownsRow_setCell_below hr (a := ⟨h, i, none⟩) hh u

theorem ownT_of {w : World} {base : Nat} {v : Value} {n : Nat} {l : List Bool} (hl : l.length = n) (h : w.ownsRow base 4 1 v n (l.map Value.bool)) : ∃ a c, v = .slice a n c ∧ OwnT base w a c l := by
  subst hl
  rcases ownsRow_T h with ⟨rfl, rfl⟩ | ⟨g, cap, rfl, hg, hr⟩
  · exact ⟨none, 0, rfl, OwnT_nil _ _⟩
  · exact ⟨_, _, rfl, .inr ⟨g, rfl, hg, hr⟩⟩

set_option maxRecDepth 20000 in
set_option maxHeartbeats 4000000 in
/-- The document's own NEW, of numbers that are not too great. -/
theorem refNew_any (n : Nat) (w : World) (hn : n ≤ 2048) :
    Calls Try.prog 10 #[.int .i64 n] w fun e w' => ∃ a1 c1 a2 c2, e = .returned (.agg #[.slice a1 n c1, .slice a2 n c2]) ∧ IsB w' a1 c1 (newL n) ∧ IsB w' a2 c2 (newL n) ∧ Below w.heap.size w w' := by
  obtain ⟨W, hW⟩ : ∃ W, W = (w.alloc (.cells #[.slice none 0 0, .slice none 0 0] 24)).alloc (.cells #[.slice none 0 0, .slice none 0 0] 24) := ⟨_, rfl⟩
  obtain ⟨hB0, hWs, bo, bi⟩ := two_boxes hW
  go_enter Try.func10, Try.ntmps10
  go_wp2
  rw [← hW]
  go_loopw [4] (fun v wr => ∃ (j : Nat) (v0 v1 : Value), j ≤ n ∧ v = .int .i64 j ∧ Box2 wr w.heap.size (.slice none 0 0) (.slice none 0 0) ∧ Box2 wr (w.heap.size + 1) v0 v1 ∧ wr.ownsRow (w.heap.size + 2) 4 1 v0 j ((newL j).map Value.bool) ∧ wr.ownsRow (w.heap.size + 2) 4 1 v1 j ((newL j).map Value.bool) ∧ (∀ g, v0.ownBlock = some g → v1.ownBlock ≠ some g) ∧ Below w.heap.size w wr ∧ w.heap.size + 2 ≤ wr.heap.size) (fun v _ => n - (intOf v).toNat)
  case atStart =>
    refine ⟨0, .slice none 0 0, .slice none 0 0, by omega, rfl, bo, bi, ⟨rfl, .inl ⟨rfl, rfl⟩⟩, ⟨rfl, .inl ⟨rfl, rfl⟩⟩, fun g hg => (by simp [Value.ownBlock] at hg), hB0, by omega⟩
  case round =>
    obtain ⟨j, v0, v1, hj, rfl, box, bix, hr0, hr1, hap, hbel, hsz⟩ := hrel
    by_cases hlt : j < n
    · have hlt' : (j : Int) < n := by omega
      obtain ⟨x, hx⟩ : ∃ x, x = decide ((j : Int) < 10) := ⟨_, rfl⟩
      have hnx : newL (j + 1) = newL j ++ [x] := by rw [newL_succ, hx]; congr 2; rw [decide_eq_decide]; omega
      obtain ⟨g0, cap0, w1, run0, own0, gr0, at0, ge0⟩ := push_T wr (w.heap.size + 2) v0 j (newL j) x hr0 hsz (by omega)
      have hrow0 : ∀ k, v0.ownBlock = some k → w.heap.size + 1 < k := fun k hk => by have := (own_lt hr0 hk).1; omega
      have box1 : Box2 w1 w.heap.size (.slice none 0 0) (.slice none 0 0) := (box.alloc _).grown gr0 (fun k hk => by have := hrow0 k hk; omega)
      have bix1 : Box2 w1 (w.heap.size + 1) v0 v1 := (bix.alloc _).grown gr0 hrow0
      have hr1' : w1.ownsRow (w.heap.size + 2) 4 1 v1 j ((newL j).map Value.bool) := (hr1.alloc _).kept gr0 (by
        cases h : v1.ownBlock with
        | none => exact .inl rfl
        | some k => exact .inr (fun he => hap k he.symm h))
      have hap1 : ∀ k, v1.ownBlock = some k → k ≠ g0 := by
        intro k hk he
        subst he
        rcases at0 with h | h
        · exact hap k h hk
        · have := (own_lt hr1 hk).2; omega
      have hb1 : Below w.heap.size w w1 := (hbel.alloc (by omega) _).grown gr0 (by simp; omega) (fun k hk => by have := hrow0 k hk; omega)
      have hsz1 : w.heap.size + 2 ≤ w1.heap.size := by have := (own_lt own0 rfl).2; have := gr0.size; simp at this; omega
      obtain ⟨W2, hW2⟩ : ∃ W2, W2 = w1.setCell ⟨w.heap.size + 1, 0, none⟩ (.slice (some ⟨g0, 0, none⟩) (j + 1) cap0) := ⟨_, rfl⟩
      have own0' : W2.ownsRow (w.heap.size + 2) 4 1 (.slice (some ⟨g0, 0, none⟩) (j + 1) cap0) (j + 1) ((newL j ++ [x]).map Value.bool) := by rw [hW2]; exact own_below own0 (by omega)
      have hr1'' : W2.ownsRow (w.heap.size + 2) 4 1 v1 j ((newL j).map Value.bool) := by rw [hW2]; exact own_below hr1' (by omega)
      have box2 : Box2 W2 w.heap.size (.slice none 0 0) (.slice none 0 0) := by
        rw [hW2]
        refine ⟨⟨?_, ?_⟩, by simpa using box1.2.1, by simpa using box1.2.2⟩
        · rw [World.cell?_setCell_other _ _ _ _ (fun hh => absurd (congrArg Addr.block hh) (by simp))]; exact box1.1.1
        · rw [World.cell?_setCell_other _ _ _ _ (fun hh => absurd (congrArg Addr.block hh) (by simp))]; exact box1.1.2
      have bix2 : Box2 W2 (w.heap.size + 1) (.slice (some ⟨g0, 0, none⟩) (j + 1) cap0) v1 := by rw [hW2]; exact bix1.set0 _
      have hb2 : Below w.heap.size w W2 := by rw [hW2]; exact hb1.setCell (p := ⟨w.heap.size + 1, 0, none⟩) (Nat.le_succ _) _
      have hsz2 : w.heap.size + 2 ≤ W2.heap.size := by rw [hW2]; simpa using hsz1
      have g0lt : g0 < W2.heap.size := (own_lt own0' rfl).2
      obtain ⟨g1, cap1, w3, run1, own1, gr1, at1, ge1⟩ := push_T W2 (w.heap.size + 2) v1 j (newL j) x hr1'' hsz2 (by omega)
      have hrow1 : ∀ k, v1.ownBlock = some k → w.heap.size + 1 < k := fun k hk => by have := (own_lt hr1'' hk).1; omega
      have box3 : Box2 w3 w.heap.size (.slice none 0 0) (.slice none 0 0) := (box2.alloc _).grown gr1 (fun k hk => by have := hrow1 k hk; omega)
      have bix3 : Box2 w3 (w.heap.size + 1) (.slice (some ⟨g0, 0, none⟩) (j + 1) cap0) v1 := (bix2.alloc _).grown gr1 hrow1
      have own0'' : w3.ownsRow (w.heap.size + 2) 4 1 (.slice (some ⟨g0, 0, none⟩) (j + 1) cap0) (j + 1) ((newL j ++ [x]).map Value.bool) := (own0'.alloc _).kept gr1 (.inr (fun he => hap1 g0 he.symm rfl))
      have hne : g0 ≠ g1 := by
        intro he
        rcases at1 with h | h
        · exact hap1 g1 h he.symm
        · omega
      have hb3 : Below w.heap.size w w3 := (hb2.alloc (by omega) _).grown gr1 (by simp; omega) (fun k hk => by have := hrow1 k hk; omega)
      have hsz3 : w.heap.size + 2 ≤ w3.heap.size := by have := gr1.size; simp at this; omega
      obtain ⟨⟨q0, q1⟩, f0, f1⟩ := bix
      have HF : Hid (∃ (v0 v1 : Value), Box2 (w3.setCell ⟨w.heap.size + 1, 1, none⟩ (.slice (some ⟨g1, 0, none⟩) (j + 1) cap1)) w.heap.size (.slice none 0 0) (.slice none 0 0) ∧ Box2 (w3.setCell ⟨w.heap.size + 1, 1, none⟩ (.slice (some ⟨g1, 0, none⟩) (j + 1) cap1)) (w.heap.size + 1) v0 v1 ∧ (w3.setCell ⟨w.heap.size + 1, 1, none⟩ (.slice (some ⟨g1, 0, none⟩) (j + 1) cap1)).ownsRow (w.heap.size + 2) 4 1 v0 (j + 1) ((newL (j + 1)).map Value.bool) ∧ (w3.setCell ⟨w.heap.size + 1, 1, none⟩ (.slice (some ⟨g1, 0, none⟩) (j + 1) cap1)).ownsRow (w.heap.size + 2) 4 1 v1 (j + 1) ((newL (j + 1)).map Value.bool) ∧ (∀ g, v0.ownBlock = some g → v1.ownBlock ≠ some g) ∧ Below w.heap.size w (w3.setCell ⟨w.heap.size + 1, 1, none⟩ (.slice (some ⟨g1, 0, none⟩) (j + 1) cap1)) ∧ w.heap.size + 2 ≤ (w3.setCell ⟨w.heap.size + 1, 1, none⟩ (.slice (some ⟨g1, 0, none⟩) (j + 1) cap1)).heap.size) := by
        refine ⟨.slice (some ⟨g0, 0, none⟩) (j + 1) cap0, .slice (some ⟨g1, 0, none⟩) (j + 1) cap1, ?_, bix3.set1 _, by rw [hnx]; exact own_below own0'' (by omega), by rw [hnx]; exact own_below own1 (by omega), ?_, hb3.setCell (p := ⟨w.heap.size + 1, 1, none⟩) (Nat.le_succ _) _, by simpa using hsz3⟩
        · refine ⟨⟨?_, ?_⟩, by simpa using box3.2.1, by simpa using box3.2.2⟩
          · rw [World.cell?_setCell_other _ _ _ _ (fun hh => absurd (congrArg Addr.block hh) (by simp))]; exact box3.1.1
          · rw [World.cell?_setCell_other _ _ _ _ (fun hh => absurd (congrArg Addr.block hh) (by simp))]; exact box3.1.2
        · intro g h1 h2
          simp [Value.ownBlock] at h1 h2
          omega
      obtain ⟨⟨k0, k1⟩, k2, k3⟩ := bix1
      obtain ⟨⟨s0, s1⟩, s2, s3⟩ := bix3
      have hs2 : W2.heap.size = w1.heap.size := by rw [hW2]; simp
      rw [hs2, hW2] at run1
      have t1 : True := trivial
      clear hr0 hr1 hap hbel hsz own0 gr0 at0 box1 hr1' hap1 hb1 hsz1 own0' hr1'' box2 bix2 hb2 hsz2 g0lt own1 gr1 at1 box3 own0'' hb3 hsz3 hrow0 hrow1 hnx hW2 hs2 box ge0 ge1 hne
      by_cases h10 : (j : Int) < 10
      · obtain rfl : x = true := by rw [hx]; simp [h10]
        clear hx
        go_wp2_with (first
          | (at_builtin; have _t := t1; refine Lib.wpList_append_run _ rfl _ _ _ _ rfl _ _ rfl rfl _ _ run0 ?_; clear t1)
          | (at_builtin; refine Lib.wpList_append_run _ rfl _ _ _ _ rfl _ _ rfl rfl _ _ run1 ?_))
        go_roundw
        case rel =>
          obtain ⟨u0, u1, hh⟩ := HF.out
          exact ⟨j + 1, u0, u1, by omega, by go_num, hh⟩
        case measure => simp [intOf]; omega
      · obtain rfl : x = false := by rw [hx]; simp [h10]
        clear hx
        go_wp2_with (first
          | (at_builtin; have _t := t1; refine Lib.wpList_append_run _ rfl _ _ _ _ rfl _ _ rfl rfl _ _ run0 ?_; clear t1)
          | (at_builtin; refine Lib.wpList_append_run _ rfl _ _ _ _ rfl _ _ rfl rfl _ _ run1 ?_))
        go_roundw
        case rel =>
          obtain ⟨u0, u1, hh⟩ := HF.out
          exact ⟨j + 1, u0, u1, by omega, by go_num, hh⟩
        case measure => simp [intOf]; omega
    · obtain rfl : j = n := by omega
      obtain ⟨a1, c1, rfl, O1⟩ := ownT_of (newL_length j) hr0
      obtain ⟨a2, c2, rfl, O2⟩ := ownT_of (newL_length j) hr1
      obtain ⟨⟨q0, q1⟩, -, -⟩ := bix
      obtain ⟨⟨r0, r1⟩, f0, f1⟩ := box
      have H1 : Hid (OwnT (w.heap.size + 2) wr a1 c1 (newL j)) := O1
      have H2 : Hid (OwnT (w.heap.size + 2) wr a2 c2 (newL j)) := O2
      clear hr0 hr1 hap O1 O2
      go_wp2
      refine bodyPost_ret (v := .agg #[.slice a1 j c1, .slice a2 j c2]) (by simp [results, Try.results10, go_sem, r0, r1]) rfl ⟨a1, c1, a2, c2, rfl, ?_, ?_, below_set2 hbel (Nat.le_refl _)⟩
      · exact ((H1.out.store (by omega) _ _).store (by omega) _ _).isB
      · exact ((H2.out.store (by omega) _ _).store (by omega) _ _).isB

end Go.Proofs.Ytomjajmjooaegaa

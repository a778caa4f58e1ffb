/-
  The document's own with: what is being made with a place so.
-/
import Derived.Test.YtomjajmjooaegaaAllocRefNew
import Derived.Test.YtomjajmjooaegaaAnychain
namespace Go.Proofs.Ytomjajmjooaegaa
open Go.RowKit Plain Anylast
set_option linter.unusedVariables false

/-- Three boxes: what came in, what goes out, what is made. -/
theorem three_boxes {w W : World} {v0 v1 u0 u1 x0 x1 : Value} {t : TypeId} (hW : W = ((w.alloc (.cells #[v0, v1] t)).alloc (.cells #[u0, u1] t)).alloc (.cells #[x0, x1] t)) :
    Below w.heap.size w W ∧ W.heap.size = w.heap.size + 3 ∧ Box2 W w.heap.size v0 v1 ∧ Box2 W (w.heap.size + 1) u0 u1 ∧ Box2 W (w.heap.size + 2) x0 x1 := by
  subst hW
  refine ⟨(((Below.refl _ _).alloc (Nat.le_refl _) _).alloc (by simp) _).alloc (by simp; omega) _, by simp, ((box2_new _ _ _ _ rfl).alloc _).alloc _, (box2_new _ _ _ _ (by simp)).alloc _, box2_new _ _ _ _ (by simp)⟩

theorem Box2.set1_other {w : World} {h k i : Nat} {v0 v1 : Value} (b : Box2 w h v0 v1) (hn : h ≠ k) (u : Value) : Box2 (w.setCell ⟨k, i, none⟩ u) h v0 v1 := by
  obtain ⟨⟨c0, c1⟩, f0, f1⟩ := b
  refine ⟨⟨?_, ?_⟩, by simpa using f0, by simpa using f1⟩
  · rw [World.cell?_setCell_other _ _ _ _ (fun hh => hn (congrArg Addr.block hh).symm)]; exact c0
  · rw [World.cell?_setCell_other _ _ _ _ (fun hh => hn (congrArg Addr.block hh).symm)]; exact c1

def putV (h h2 b2 o2 n c j H g cap : Nat) (u : Value) (x : Bool) : Nat → Value
  | 0 => .pointer (some ⟨h2, 1, none⟩)
  | 1 => u
  | 2 => .pointer (some ⟨h, 1, none⟩)
  | 3 => .slice (some ⟨b2, o2, none⟩) n c
  | 4 => .int .i64 j
  | 5 => .pointer (some ⟨b2, o2 + j, none⟩)
  | 6 => .bool x
  | 7 => .slice (some ⟨H, 0, none⟩) 1 1
  | 8 => .slice (some ⟨g, 0, none⟩) (j + 1) cap
  | 9 => .pointer (some ⟨h2, 1, none⟩)
  | _ => undef

def fourW (w0 w1 w2 w3 : World) : Nat → World
  | 0 => w0
  | 1 => w1
  | 2 => w2
  | _ => w3

set_option maxRecDepth 20000 in
set_option maxHeartbeats 8000000 in
/-- WITH of the document's own, of rows that are not too long. -/
theorem refPut_any (a a' : Option Addr) (c c' n n' : Nat) (m : List Bool) (p : Nat) (is : Bool) (w : World) (hn' : n' = m.length) (hl : n' ≤ 2048) (hB' : IsB w a' c' m) :
    Calls Try.prog 30 #[.agg #[.slice a n c, .slice a' n' c'], .int .i64 p, .bool is] w fun e w' => ∃ a2 c2, e = .returned (.agg #[.slice a n c, .slice a2 n' c2]) ∧ OwnT w.heap.size w' a2 c2 (m.set p is) ∧ Below w.heap.size w w' := by
  obtain ⟨W, hW⟩ : ∃ W, W = ((w.alloc (.cells #[.slice a n c, .slice a' n' c'] 24)).alloc (.cells #[.slice none 0 0, .slice none 0 0] 24)).alloc (.cells #[.slice a n c, .slice none 0 0] 24) := ⟨_, rfl⟩
  obtain ⟨hB0, hWs, bi, bo, bm⟩ := three_boxes hW
  obtain ⟨L, hL, hlen⟩ : ∃ L, Hid (L = m.set p is) ∧ Hid (L.length = n') := ⟨_, rfl, by show _ = _; rw [List.length_set, hn']⟩
  have HB' : Hid (IsB w a' c' m) := hB'
  have HN : Hid (n' = m.length) := hn'
  have F : Hid (OwnT w.heap.size w none 0 []) := OwnT_nil _ _
  clear hB' hn'
  go_enter Try.func30, Try.ntmps30
  go_wp2
  rw [← hW]
  go_loopw [15] (fun v wr => ∃ (j : Nat) (u : Value), j ≤ n' ∧ v = .int .i64 j ∧ Box2 wr w.heap.size (.slice a n c) (.slice a' n' c') ∧ Box2 wr (w.heap.size + 1) (.slice none 0 0) (.slice none 0 0) ∧ Box2 wr (w.heap.size + 2) (.slice a n c) u ∧ wr.ownsRow (w.heap.size + 3) 4 1 u j ((L.take j).map Value.bool) ∧ Below w.heap.size w wr ∧ w.heap.size + 3 ≤ wr.heap.size) (fun v _ => n' - (intOf v).toNat)
  case atStart =>
    exact ⟨0, .slice none 0 0, by omega, rfl, bi, bo, bm, ⟨rfl, .inl ⟨rfl, rfl⟩⟩, hB0, by omega⟩
  case round =>
    obtain ⟨j, u, hj, rfl, xi, xo, xm, hown, hbel, hsz⟩ := hrel
    by_cases hlt : j < n'
    · have hlt' : (j : Int) < n' := by omega
      obtain ⟨x, hx⟩ : ∃ x, Hid (L[j]? = some x) := ⟨_, List.getElem?_eq_getElem (by rw [hlen.out]; exact hlt)⟩
      have hnx : L.take (j + 1) = L.take j ++ [x] := by rw [List.take_add_one, hx.out]; rfl
      have hrow : ∀ k, u.ownBlock = some k → w.heap.size + 2 < k := fun k hk => by have := (own_lt hown hk).1; omega
      -- both worlds in which the row may grow
      have each : ∀ V : World, (V = wr ∨ V = wr.drew) → ∃ g cap w2, (Builtin.append_ #[22, 22] 22 #[u, .slice (some ⟨V.heap.size, 0, none⟩) 1 1]).run Try.prog (V.alloc (.cells #[.bool x] 4)) = .ok (.slice (some ⟨g, 0, none⟩) (j + 1) cap) w2 ∧ Box2 w2 (w.heap.size + 2) (.slice a n c) u ∧ Box2 w2 w.heap.size (.slice a n c) (.slice a' n' c') ∧
          Hid (Box2 (w2.setCell ⟨w.heap.size + 2, 1, none⟩ (.slice (some ⟨g, 0, none⟩) (j + 1) cap)) w.heap.size (.slice a n c) (.slice a' n' c') ∧ Box2 (w2.setCell ⟨w.heap.size + 2, 1, none⟩ (.slice (some ⟨g, 0, none⟩) (j + 1) cap)) (w.heap.size + 1) (.slice none 0 0) (.slice none 0 0) ∧ Box2 (w2.setCell ⟨w.heap.size + 2, 1, none⟩ (.slice (some ⟨g, 0, none⟩) (j + 1) cap)) (w.heap.size + 2) (.slice a n c) (.slice (some ⟨g, 0, none⟩) (j + 1) cap) ∧ (w2.setCell ⟨w.heap.size + 2, 1, none⟩ (.slice (some ⟨g, 0, none⟩) (j + 1) cap)).ownsRow (w.heap.size + 3) 4 1 (.slice (some ⟨g, 0, none⟩) (j + 1) cap) (j + 1) ((L.take (j + 1)).map Value.bool) ∧ Below w.heap.size w (w2.setCell ⟨w.heap.size + 2, 1, none⟩ (.slice (some ⟨g, 0, none⟩) (j + 1) cap)) ∧ w.heap.size + 3 ≤ (w2.setCell ⟨w.heap.size + 2, 1, none⟩ (.slice (some ⟨g, 0, none⟩) (j + 1) cap)).heap.size) := by
        intro V hV
        have xi' : Box2 V w.heap.size (.slice a n c) (.slice a' n' c') := by rcases hV with rfl | rfl; exact xi; exact xi.drew
        have xo' : Box2 V (w.heap.size + 1) (.slice none 0 0) (.slice none 0 0) := by rcases hV with rfl | rfl; exact xo; exact xo.drew
        have xm' : Box2 V (w.heap.size + 2) (.slice a n c) u := by rcases hV with rfl | rfl; exact xm; exact xm.drew
        have hown' : V.ownsRow (w.heap.size + 3) 4 1 u j ((L.take j).map Value.bool) := by rcases hV with rfl | rfl; exact hown; exact hown.drew
        have hbel' : Below w.heap.size w V := by rcases hV with rfl | rfl; exact hbel; exact hbel.drew
        have hsz' : w.heap.size + 3 ≤ V.heap.size := by rcases hV with rfl | rfl; exact hsz; exact hsz
        obtain ⟨g, cap, w2, run, own, gr, hat, hge⟩ := push_T V (w.heap.size + 3) u j (L.take j) x hown' hsz' (by omega)
        have y2 : Box2 w2 (w.heap.size + 2) (.slice a n c) u := (xm'.alloc _).grown gr hrow
        have y0 : Box2 w2 w.heap.size (.slice a n c) (.slice a' n' c') := (xi'.alloc _).grown gr (fun k hk => by have := hrow k hk; omega)
        refine ⟨g, cap, w2, run, y2, y0, ?_, ?_, y2.set1 _, ?_, ?_, ?_⟩
        · exact y0.set1_other (by omega) _
        · exact ((xo'.alloc _).grown gr (fun k hk => by have := hrow k hk; omega)).set1_other (by omega) _
        · rw [hnx]; exact own_below own (by omega)
        · exact ((hbel'.alloc (by omega) _).grown gr (by simp; omega) (fun k hk => by have := hrow k hk; omega)).setCell (p := ⟨w.heap.size + 2, 1, none⟩) (by show w.heap.size ≤ w.heap.size + 2; omega) _
        · have := gr.size
          simp at this ⊢
          omega
      by_cases hjp : j = p
      · obtain rfl : x = is := by
          have := hx.out
          rw [hL.out, hjp, List.getElem?_set_self (by rw [← HN.out, ← hjp]; exact hlt)] at this
          exact (Option.some.inj this).symm
        obtain ⟨g, cap, w2, run, ⟨⟨s0, s1⟩, s2, s3⟩, -, HF⟩ := each wr (.inl rfl)
        obtain ⟨⟨q0, q1⟩, f0, f1⟩ := xm
        subst hjp
        clear each hnx hown hbel hrow xi xo
        go_wp2_with (at_builtin; refine Lib.wpList_append_run _ rfl _ _ _ _ rfl _ _ rfl rfl _ _ run ?_)
        go_roundw
        case rel => exact ⟨j + 1, _, by omega, by go_num, HF.out⟩
        case measure => simp [intOf]; omega
      · have hxm : m[j]? = some x := by
          have := hx.out
          rw [hL.out, List.getElem?_set_ne (fun h => hjp h.symm)] at this
          exact this
        have hjp' : ((j : Int) == p) = false := by rw [beq_eq_false_iff_ne]; omega
        obtain ⟨b2, o2, rfl, -, hc0⟩ := HB'.out.2.2 j x hxm
        have hc := cell_below hbel hc0
        obtain ⟨g, cap, w2, run, ⟨⟨s0, s1⟩, s2, s3⟩, ⟨⟨y0, y1⟩, -, -⟩, HF⟩ := each wr.drew (.inr rfl)
        obtain ⟨⟨q0, q1⟩, f0, f1⟩ := xm
        obtain ⟨⟨r0, r1⟩, -, -⟩ := xi
        have d0 := cell_drew q1
        have d1 : (wr.drew.alloc (.cells #[.bool x] 4)).cell? ⟨w.heap.size + 2, 1, none⟩ = some u := cell_alloc (cell_drew q1) _
        have d2 := cell_drew r1
        have d3 := cell_drew hc
        have d4 : (wr.alloc (.cells #[.bool x] 4)).cell? ⟨w.heap.size + 1 + 1, 1, none⟩ = some u := cell_alloc q1 _
        have d5 : (wr.alloc (.cells #[.bool x] 4)).cell? ⟨w.heap.size, 1, none⟩ = some (.slice (some ⟨b2, o2, none⟩) n' c') := cell_alloc r1 _
        clear each hnx hown hbel hrow xo hxm hc0
        have e3 : w2.frozen? ⟨w.heap.size + 1 + 1, 1, none⟩ = false := s3
        have e0 : wr.drew.cell? ⟨w.heap.size + 1 + 1, 1, none⟩ = some u := d0
        have e1 : (wr.drew.alloc (.cells #[.bool x] 4)).cell? ⟨w.heap.size + 1 + 1, 1, none⟩ = some u := d1
        have e2 : w2.cell? ⟨w.heap.size + 1 + 1, 1, none⟩ = some u := s1
        go_wp2
        refine region_worlds (by kernel_rfl) [7, 8, 10] (putV w.heap.size (w.heap.size + 1 + 1) b2 o2 n' c' j wr.heap.size g cap u x) (fourW wr.drew (wr.drew.alloc (.cells #[.bool x] 4)) w2 (w2.setCell ⟨w.heap.size + 1 + 1, 1, none⟩ (.slice (some ⟨g, 0, none⟩) (j + 1) cap)))
          (by kernel_rfl) (by kernel_rfl) rfl ?step 11 rfl ?done
        case step =>
          intro i o ho k ac hk hmay hdf hsz hdep hsame
          match i, ho with
          | 0, ho =>
            cases ho
            have h7 := hsame 7 rfl
            exact val_op rfl (wanted_free rfl) (by clear hdep hsame hsz hdf; simp only [putV]; go_simp) rfl rfl
          | 1, ho =>
            cases ho
            have h27 := hdep 0 _ 27 rfl rfl rfl
            simp only [putV] at h27
            match k, hk, hmay with
            | 0, _, _ => exact val_op rfl (wanted_free rfl) (by clear hdep hsame hsz hdf; simp only [putV, fourW]; go_simp) rfl rfl
            | 1, _, _ => exact val_op rfl (wanted_free rfl) (by clear hdep hsame hsz hdf; simp only [putV, fourW]; go_simp) rfl rfl
            | 2, _, h => cases h
            | 3, _, h => cases h
            | k + 4, hk, _ => simp at hk
          | 2, ho =>
            cases ho
            have h3 := hsame 3 rfl
            exact val_op rfl (wanted_free rfl) (by clear hdep hsame hsz hdf; simp only [putV]; go_simp) rfl rfl
          | 3, ho =>
            cases ho
            have h29 := hdep 2 _ 29 rfl rfl rfl
            simp only [putV] at h29
            match k, hk, hmay with
            | 0, _, _ => exact val_op rfl (wanted_free rfl) (by clear hdep hsame hsz hdf; simp only [putV, fourW]; go_simp) rfl rfl
            | 1, _, _ => exact val_op rfl (wanted_free rfl) (by clear hdep hsame hsz hdf; simp only [putV, fourW]; go_simp) rfl rfl
            | 2, _, _ => exact val_op rfl (wanted_free rfl) (by clear hdep hsame hsz hdf; simp only [putV, fourW]; go_simp) rfl rfl
            | 3, _, h => cases h
            | k + 4, hk, _ => simp at hk
          | 4, ho =>
            cases ho
            have h8 := hsame 8 rfl
            exact val_op rfl (wanted_free rfl) (by clear hdep hsame hsz hdf; simp only [putV]; go_simp) rfl rfl
          | 5, ho =>
            cases ho
            have h30 := hdep 3 _ 30 rfl rfl rfl
            have h31 := hdep 4 _ 31 rfl rfl rfl
            simp only [putV] at h30 h31
            exact val_op rfl (wanted_free rfl) (by clear hdep hsame hsz hdf; simp only [putV]; go_simp) rfl rfl
          | 6, ho =>
            cases ho
            have h32 := hdep 5 _ 32 rfl rfl rfl
            simp only [putV] at h32
            match k, hk, hmay with
            | 0, _, _ => exact val_op rfl (wanted_free rfl) (by clear hdep hsame hsz hdf; simp only [putV, fourW]; go_simp) rfl rfl
            | 1, _, h => cases h
            | 2, _, h => cases h
            | 3, _, h => cases h
            | k + 4, hk, _ => simp at hk
          | 7, ho =>
            cases ho
            have h33 := hdep 6 _ 33 rfl rfl rfl
            simp only [putV] at h33
            match k, hk, hmay with
            | 0, _, _ => exact val_op rfl (wanted_free rfl) (by clear hdep hsame hsz hdf; simp only [putV, fourW]; go_simp) rfl rfl
            | 1, _, h => cases h
            | 2, _, h => cases h
            | 3, _, h => cases h
            | k + 4, hk, _ => simp at hk
          | 8, ho =>
            cases ho
            have h28 := eval_tmp (hdep 1 _ 28 rfl rfl rfl)
            have h34 := eval_tmp (hdep 7 _ 34 rfl rfl rfl)
            simp only [putV] at h28 h34
            match k, hk, hmay with
            | 1, _, _ => exact val_append rfl (wanted_free rfl) rfl h28 h34 run rfl rfl
            | 0, _, h => cases h
            | 2, _, h => cases h
            | 3, _, h => cases h
            | k + 4, hk, _ => simp at hk
          | 9, ho =>
            cases ho
            have h7 := hsame 7 rfl
            exact val_op rfl (wanted_free rfl) (by clear hdep hsame hsz hdf; simp only [putV]; go_simp) rfl rfl
          | 10, ho =>
            cases ho
            have h36 := hdep 9 _ 36 rfl rfl rfl
            have h35 := hdep 8 _ 35 rfl rfl rfl
            simp only [putV] at h36 h35
            match k, hk, hmay with
            | 2, _, _ => exact val_skip rfl (wanted_free rfl) rfl (by clear hdep hsame hsz hdf; simp only [fourW]; go_simp) rfl
            | 0, _, h => cases h
            | 1, _, h => cases h
            | 3, _, h => cases h
            | k + 4, hk, _ => simp at hk
          | k + 11, ho => simp at ho
        case done =>
          simp [filledN, putV, fourW]
          go_wp2
          go_roundw
          case rel => exact ⟨j + 1, _, by omega, by go_num, HF.out⟩
          case measure => simp [intOf]; omega
    · obtain rfl : j = n' := by omega
      obtain ⟨a2, c2, rfl, O2⟩ := ownT_of (l := L.take j) (by rw [List.length_take, hlen.out]; omega) hown
      have H2 : Hid (OwnT (w.heap.size + 3) wr a2 c2 (m.set p is)) := by rw [← hlen.out, List.take_length, hL.out] at O2; exact O2
      obtain ⟨⟨q0, q1⟩, -, -⟩ := xm
      obtain ⟨⟨r0, r1⟩, f0, f1⟩ := xo
      clear hown O2
      go_wp2
      refine bodyPost_ret (v := .agg #[.slice a n c, .slice a2 j c2]) (by simp [results, Try.results30, go_sem, r0, r1]) rfl ⟨a2, c2, rfl, ?_, below_set2 hbel (Nat.le_succ _)⟩
      exact ((H2.out.store (by omega) _ _).store (by omega) _ _).mono (by omega)

end Go.Proofs.Ytomjajmjooaegaa

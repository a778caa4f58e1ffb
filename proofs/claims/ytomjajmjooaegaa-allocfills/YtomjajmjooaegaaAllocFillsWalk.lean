/-
  The walk through the statement AllocFills.
-/
import Derived.Test.YtomjajmjooaegaaAllocBox
import Derived.Test.YtomjajmjooaegaaAnychain
namespace Go.Proofs.Ytomjajmjooaegaa
open Go.RowKit Plain Anylast
set_option linter.unusedVariables false

theorem Try.info3 : (Try.prog.info? 3).map (fun i => (i.zero, i.size, i.bytes)) = some (some (.int .i64 0), 1, 8) := by kernel_rfl

def cellI (x : Int) : Value := .int .i64 x

/-- One number more at the end of a row of the call's own. -/
theorem push_I (W : World) (base : Nat) (v : Value) (n : Nat) (l : List Int) (x : Int) (hown : W.ownsRow base 3 1 v n (l.map cellI)) (hb : base ≤ W.heap.size) (hn : n ≤ 4096) :
    ∃ g cap w', (Builtin.append_ #[34, 34] 34 #[v, .slice (some ⟨W.heap.size, 0, none⟩) 1 1]).run Try.prog (W.alloc (.cells #[.int .i64 x] 3)) = .ok (.slice (some ⟨g, 0, none⟩) (n + 1) cap) w' ∧
      w'.ownsRow base 3 1 (.slice (some ⟨g, 0, none⟩) (n + 1) cap) (n + 1) ((l ++ [x]).map cellI) ∧ (W.alloc (.cells #[.int .i64 x] 3)).grownBy w' v.ownBlock ∧ base ≤ g := by
  obtain ⟨i0, hi, hz0, hz1, hz2⟩ := info_parts Try.info3
  obtain ⟨g, cap, w', h1, h2, h3, h4, h5⟩ := run_append_lies (P := Try.prog) (W.alloc (.cells #[.int .i64 x] 3)) 34 34 base 3 i0 _ 1 8 Try.underlying34 hi hz0 hz1 hz2 rfl (by decide) v n (l.map cellI) (hown.alloc _) ⟨W.heap.size, 0, none⟩ 1 1 [.int .i64 x] rfl
    (by
      intro j u hj
      match j, hj with
      | 0, hj => simp at hj; subst hj; rw [at_add]; exact World.cell?_alloc_at _ _ _ _ rfl)
    (by intro u hu; simp at hu; subst hu; rfl) (by omega) (by unfold maxLen; omega) (by omega) (by simp; omega) (W.heap.size + 1) (by simp)
  refine ⟨g, cap, w', h1, by rw [List.map_append]; exact h2, h3, ?_⟩
  obtain ⟨g', cap', he, hb', _⟩ := h2.form (by omega)
  cases he
  exact hb'

theorem own_lt {w : World} {base : Nat} {e : TypeId} {s n : Nat} {v : Value} {xs : List Value} (h : w.ownsRow base e s v n xs) {g : Nat} (hg : v.ownBlock = some g) : base ≤ g ∧ g < w.heap.size := h.lt g hg

/-- A row of numbers of the call's own as it is handed over. -/
theorem own_isI {w : World} {base n : Nat} {v : Value} {l : List Int} (hl : l.length = n) (h : w.ownsRow base 3 1 v n (l.map cellI)) : ∃ a c, v = .slice a n c ∧ IsI w a c l := by
  subst hl
  rcases h.2 with ⟨rfl, h0⟩ | ⟨g, cap, cur, rfl, _, hcur, hnc, hcm, hsz, htk⟩
  · refine ⟨none, 0, by rw [h0], by omega, Nat.zero_le _, fun j m hj => ?_⟩
    have := (List.getElem?_eq_some_iff.1 hj).1
    omega
  · refine ⟨some ⟨g, 0, none⟩, cap, rfl, hnc, hcm, fun j m hj => ⟨g, 0, rfl, (Array.getElem?_eq_some_iff.1 hcur).1, ?_⟩⟩
    rw [Nat.zero_add, Joins.cell_of_block hcur]
    have hj' := (List.getElem?_eq_some_iff.1 hj).1
    rw [← Array.getElem?_toList]
    have : (cur.toList.take (l.length * 1))[j]? = some (.int .i64 m) := by rw [htk, List.getElem?_map, hj]; rfl
    rwa [List.getElem?_take_of_lt (by omega)] at this

/-- The free blocks as numbers. -/
def freesI (b m : List Bool) : List Int := (freesL b m).map fun i : Nat => (i : Int)

theorem freesI_length (b m : List Bool) : (freesI b m).length = (freesL b m).length := by simp [freesI]
theorem freesI_get {b m : List Bool} {j p : Nat} (h : (freesL b m)[j]? = some p) : (freesI b m)[j]? = some (p : Int) := by unfold freesI; rw [List.getElem?_map, h]; rfl

theorem frees_lt {b m : List Bool} {i j p q : Nat} (hp : (freesL b m)[i]? = some p) (hq : (freesL b m)[j]? = some q) (h : i < j) : p < q := by
  have hs := freesL_sorted b m
  rw [List.pairwise_iff_getElem] at hs
  obtain ⟨h1, e1⟩ := List.getElem?_eq_some_iff.1 hp
  obtain ⟨h2, e2⟩ := List.getElem?_eq_some_iff.1 hq
  have := hs i j h1 h2 h
  omega

/-- Turned round by so many. -/
def turnL (l : List Int) (t : Nat) : List Int := l.drop t ++ l.take t

theorem turnL_length (l : List Int) {t : Nat} (h : t ≤ l.length) : (turnL l t).length = l.length := by unfold turnL; simp; omega

theorem fill_turned {b m : List Bool} (h : rightA b m = true) (t : Nat) : giveR (fillN b m (freesL b m).length) (turnL (freesI b m) t) = some m := by
  refine fill_back h ?_ fun x => ?_
  · have hp : (turnL (freesI b m) t).Perm (freesI b m) := by
      unfold turnL
      exact List.perm_append_comm.trans (by rw [List.take_append_drop])
    refine hp.nodup_iff.2 ?_
    unfold freesI
    exact List.pairwise_map.2 ((freesL_nodup b m).imp fun h hh => h (by omega))
  · have hp : (turnL (freesI b m) t).Perm (freesI b m) := by
      unfold turnL
      exact List.perm_append_comm.trans (by rw [List.take_append_drop])
    rw [hp.mem_iff]
    unfold freesI
    simp only [List.mem_map]
    constructor
    · rintro ⟨i, hi, rfl⟩; exact ⟨i, hi, rfl⟩
    · rintro ⟨i, hi, rfl⟩; exact ⟨i, hi, rfl⟩

theorem box_grown {w w' : World} {row : Option Nat} {h : Nat} {v0 v1 : Value} (b : Box2 w h v0 v1) (hg : w.grownBy w' row) (hr : ∀ k, row = some k → h < k) : Box2 w' h v0 v1 := by
  have hl := b.lt
  have hb : w'.heap[h]? = w.heap[h]? := hg.block h hl (fun he => by have := hr h he.symm; omega)
  obtain ⟨⟨c0, c1⟩, f0, f1⟩ := b
  exact ⟨⟨by rw [World.cell?_of_block (w := w) hb]; exact c0, by rw [World.cell?_of_block (w := w) hb]; exact c1⟩, by rw [World.frozen?_of_block (w := w) hb]; exact f0, by rw [World.frozen?_of_block (w := w) hb]; exact f1⟩

theorem own_belowW {w w' : World} {base : Nat} {e : TypeId} {s n : Nat} {v : Value} {xs : List Value} (h : w.ownsRow base e s v n xs) (hb : Below w.heap.size w w') : w'.ownsRow base e s v n xs := by
  obtain ⟨h1, h2⟩ := h
  refine ⟨h1, ?_⟩
  rcases h2 with h2 | ⟨g, cap, cur, rfl, hg, hc, hr⟩
  · exact .inl h2
  · exact .inr ⟨g, cap, cur, rfl, hg, by rw [hb.block g (Array.getElem?_eq_some_iff.1 hc).1]; exact hc, hr⟩

/-- What was taken is stored, its number laid at the row's end. -/
theorem fill_step {W wr w3 : World} {B h1 n j : Nat} {u x0 x1 : Value} {L : List Int} {p : Int} {a3 a4 : Option Addr} {c3 c4 : Nat} {b m' : List Bool}
    (hown : wr.ownsRow B 3 1 u j (L.map cellI)) (hsz : B ≤ wr.heap.size) (hh : h1 < B) (hX : Box2 wr h1 x0 x1) (o3 : OwnT wr.heap.size w3 a3 c3 b) (o4 : OwnT wr.heap.size w3 a4 c4 m') (hb : Below wr.heap.size wr w3) (hW : Below W.heap.size W wr) (hWh : W.heap.size ≤ h1) (hj : j ≤ 4096) :
    Box2 (w3.alloc (.cells #[.slice a3 n c3, .slice a4 n c4] 24)) h1 x0 x1 ∧
    ∃ g cap w5, (Builtin.append_ #[34, 34] 34 #[u, .slice (some ⟨w3.heap.size + 1, 0, none⟩) 1 1]).run Try.prog ((((w3.alloc (.cells #[.slice a3 n c3, .slice a4 n c4] 24)).setCell ⟨h1, 0, none⟩ (.slice a3 n c3)).setCell ⟨h1, 1, none⟩ (.slice a4 n c4)).alloc (.cells #[.int .i64 p] 3)) = .ok (.slice (some ⟨g, 0, none⟩) (j + 1) cap) w5 ∧
      Hid (w5.ownsRow B 3 1 (.slice (some ⟨g, 0, none⟩) (j + 1) cap) (j + 1) ((L ++ [p]).map cellI) ∧ AllocAt w5 h1 a3 n c3 a4 n c4 b m' ∧ Below W.heap.size W w5 ∧ B ≤ w5.heap.size) := by
  have bx : Box2 (w3.alloc (.cells #[.slice a3 n c3, .slice a4 n c4] 24)) h1 x0 x1 := (hX.below hb).alloc _
  refine ⟨bx, ?_⟩
  obtain ⟨W4, hW4⟩ : ∃ W4, W4 = ((w3.alloc (.cells #[.slice a3 n c3, .slice a4 n c4] 24)).setCell ⟨h1, 0, none⟩ (.slice a3 n c3)).setCell ⟨h1, 1, none⟩ (.slice a4 n c4) := ⟨_, rfl⟩
  have hs4 : W4.heap.size = w3.heap.size + 1 := by rw [hW4]; simp
  have own4 : W4.ownsRow B 3 1 u j (L.map cellI) := by
    rw [hW4]
    refine ownsRow_setCell_below (ownsRow_setCell_below (World.ownsRow.alloc ?_ _) (a := ⟨h1, 0, none⟩) hh _) (a := ⟨h1, 1, none⟩) hh _
    exact own_belowW hown hb
  have o3' : OwnT wr.heap.size W4 a3 c3 b := by rw [hW4]; exact ((o3.alloc _).store (by omega) _ _).store (by omega) _ _
  have o4' : OwnT wr.heap.size W4 a4 c4 m' := by rw [hW4]; exact ((o4.alloc _).store (by omega) _ _).store (by omega) _ _
  have b4 : Box2 W4 h1 (.slice a3 n c3) (.slice a4 n c4) := by rw [hW4]; exact bx.set _ _
  have hb3 := hb.size
  have hB4 : Below W.heap.size W W4 := by
    rw [hW4]
    have h3 := Below.tr hW hb
    exact ((h3.alloc h3.size _).setCell (p := ⟨h1, 0, none⟩) hWh _).setCell (p := ⟨h1, 1, none⟩) hWh _
  obtain ⟨g, cap, w5, run, own, gr, hge⟩ := push_I W4 B u j L p own4 (by omega) hj
  rw [hs4, hW4] at run
  have hrow : ∀ k, u.ownBlock = some k → B ≤ k ∧ k < wr.heap.size := fun k hk => hown.lt k hk
  refine ⟨g, cap, w5, run, own, ⟨box_grown (b4.alloc _) gr (fun k hk => by have := (hrow k hk).1; omega), ((o3'.alloc _).grown gr (fun k hk => (hrow k hk).2)).isB, ((o4'.alloc _).grown gr (fun k hk => (hrow k hk).2)).isB⟩, ?_, ?_⟩
  · exact (hB4.alloc hB4.size _).grown gr (by have := hB4.size; simp; omega) (fun k hk => by have := (hrow k hk).1; omega)
  · have := gr.size
    simp at this
    omega

theorem isI_src {w : World} {b o c : Nat} {L : List Int} (h : IsI w (some ⟨b, o, none⟩) c L) (s : Nat) : ∀ j u, ((L.drop s).map cellI)[j]? = some u → w.cell? ((⟨b, o + s, none⟩ : Addr).add j) = some u := by
  intro j u hj
  rw [List.getElem?_map, List.getElem?_drop] at hj
  obtain ⟨x, hx, rfl⟩ := Option.map_eq_some_iff.1 hj
  obtain ⟨b', o', ha, _, hc⟩ := h.2.2 (s + j) x hx
  cases ha
  rw [at_add, Nat.add_assoc]
  exact hc

theorem isI_take {w : World} {b o c : Nat} {L : List Int} (h : IsI w (some ⟨b, o, none⟩) c L) (t : Nat) : ∀ j u, ((L.take t).map cellI)[j]? = some u → w.cell? ((⟨b, o, none⟩ : Addr).add j) = some u := by
  intro j u hj
  rw [List.getElem?_map] at hj
  obtain ⟨x, hx, rfl⟩ := Option.map_eq_some_iff.1 hj
  obtain ⟨b', o', ha, _, hc⟩ := (h.take t).2.2 j x hx
  cases ha
  rw [at_add]
  exact hc

/-- 'append(append([]int{}, l[t:]...), l[:t]...)'. -/
theorem turn_step (V : World) {g0 o0 c0 j t : Nat} {L : List Int} (hL : L.length = j) (hI : IsI V (some ⟨g0, o0, none⟩) c0 L) (hg : g0 < V.heap.size) (ht : t < j) (hj : j ≤ 4096) (hjc : j ≤ c0) :
    ∃ g1 cap1 w5 g2 cap2 w6, (Builtin.append_ #[34, 34] 34 #[.slice (some ⟨V.heap.size, 0, none⟩) 0 0, .slice (some ⟨g0, o0 + t, none⟩) (j - t) (c0 - t)]).run Try.prog (V.alloc (.cells #[] 3)) = .ok (.slice (some ⟨g1, 0, none⟩) (j - t) cap1) w5 ∧
      (Builtin.append_ #[34, 34] 34 #[.slice (some ⟨g1, 0, none⟩) (j - t) cap1, .slice (some ⟨g0, o0, none⟩) t c0]).run Try.prog w5 = .ok (.slice (some ⟨g2, 0, none⟩) j cap2) w6 ∧ Hid (IsI w6 (some ⟨g2, 0, none⟩) cap2 (turnL L t) ∧ Below V.heap.size V w6) := by
  obtain ⟨i0, hi, hz0, hz1, hz2⟩ := info_parts Try.info3
  have hc0 := hI.2.1
  have hown := World.ownsRow_made (base := V.heap.size) (e := 3) (size := 1) V #[] 0 (Nat.le_refl _) (Nat.zero_le _) rfl
  have hA := (Below.refl V.heap.size V).alloc (Nat.le_refl _) (.cells #[] 3)
  have cellsOne : ∀ (l : List Int), ∀ u ∈ l.map cellI, u.oneCell' = true := fun l u hu => by obtain ⟨x, _, rfl⟩ := List.mem_map.1 hu; rfl
  obtain ⟨v1, w5, run1, own1, gr1, -⟩ := run_append_own (P := Try.prog) (V.alloc (.cells #[] 3)) V.heap.size 34 34 3 i0 _ 1 8 Try.underlying34 hi hz0 hz1 hz2 rfl (by decide) _ 0 _ hown ⟨g0, o0 + t, none⟩ (j - t) (c0 - t) ((L.drop t).map cellI) (by simp; omega) (isI_src (hI.below hA) t) (cellsOne _) (by unfold maxLen; omega) (by omega) (by simp)
  rw [Nat.zero_add] at own1
  obtain ⟨g1, cap1, rfl, hg1, -⟩ := own1.form (by omega)
  have hB5 : Below V.heap.size V w5 := hA.grown gr1 (by simp) (by intro k hk; simp [Value.ownBlock] at hk; omega)
  obtain ⟨v2, w6, run2, own2, gr2, -⟩ := run_append_own (P := Try.prog) w5 V.heap.size 34 34 3 i0 _ 1 8 Try.underlying34 hi hz0 hz1 hz2 rfl (by decide) _ (j - t) _ own1 ⟨g0, o0, none⟩ t c0 ((L.take t).map cellI) (by simp; omega) (isI_take (hI.below hB5) t) (cellsOne _) (by unfold maxLen; omega) (by omega) hB5.size
  rw [show j - t + t = j by omega] at own2
  obtain ⟨g2, cap2, rfl, hg2, -⟩ := own2.form (by omega)
  have hB6 : Below V.heap.size V w6 := hB5.grown gr2 hB5.size (by intro k hk; simp [Value.ownBlock] at hk; omega)
  refine ⟨g1, cap1, w5, g2, cap2, w6, run1, run2, ?_, hB6⟩
  have hmap : ([] : List Value) ++ (L.drop t).map cellI ++ (L.take t).map cellI = (turnL L t).map cellI := by unfold turnL; rw [List.map_append]; rfl
  have own3 : w6.ownsRow V.heap.size 3 1 (.slice (some ⟨g2, 0, none⟩) j cap2) j ((turnL L t).map cellI) := by rw [← hmap]; exact own2
  obtain ⟨a3, c3, he, hI3⟩ := own_isI (by rw [turnL_length _ (by omega), hL]) own3
  cases he
  exact hI3

def turnV (H g0 o0 j t c0 g1 cap1 g2 cap2 : Nat) : Nat → Value
  | 0 => .slice (some ⟨H, 0, none⟩) 0 0
  | 1 => .slice (some ⟨g0, o0, none⟩) j c0
  | 2 => .int .i64 t
  | 3 => .slice (some ⟨g0, o0 + t, none⟩) (j - t) (c0 - t)
  | 4 => .slice (some ⟨g1, 0, none⟩) (j - t) cap1
  | 5 => .slice (some ⟨g0, o0, none⟩) j c0
  | 6 => .int .i64 t
  | 7 => .slice (some ⟨g0, o0, none⟩) t c0
  | 8 => .slice (some ⟨g2, 0, none⟩) j cap2
  | 9 => .slice (some ⟨g2, 0, none⟩) j cap2
  | _ => undef

def fourW (w0 w1 w2 w3 : World) : Nat → World
  | 0 => w0
  | 1 => w1
  | 2 => w2
  | _ => w3

/-- Where a number falls among so many places. -/
theorem rem_place (z : Int) (n : Nat) (h : 0 < n) : ∃ (r : Int) (t : Nat), z.tmod n = r ∧ -(n : Int) < r ∧ r < n ∧ (r + n).tmod n = t ∧ t < n := by
  have hn : (0 : Int) < n := by omega
  have h1 : z.tmod n < n := Int.tmod_lt_of_pos z hn
  have h2 : -(n : Int) < z.tmod n := by
    have := Int.tmod_lt_of_pos (-z) hn
    rw [Int.neg_tmod] at this
    omega
  refine ⟨z.tmod n, ((z.tmod n + n).tmod n).toNat, rfl, h2, h1, ?_, ?_⟩
  · have : 0 ≤ (z.tmod n + n).tmod n := Int.tmod_nonneg _ (by omega)
    omega
  · have := Int.tmod_lt_of_pos (z.tmod n + n) hn
    have : 0 ≤ (z.tmod n + n).tmod n := Int.tmod_nonneg _ (by omega)
    omega

set_option maxRecDepth 20000 in
set_option maxHeartbeats 8000000 in
theorem allocFills_walk (a a' : Option Addr) (c c' : Nat) (b m : List Bool) (z : Int) (w : World) (hB : IsB w a c b) (hB' : IsB w a' c' m) (wz : (Lit.int .i64 z).wf = true) :
    Calls Try.prog 7 #[.agg #[.slice a b.length c, .slice a' m.length c'], .int .i64 z] w fun e w' => e = .returned (.bool true) ∧ Below w.heap.size w w' := by
  obtain ⟨n, hn⟩ : ∃ n, n = b.length := ⟨_, rfl⟩
  obtain ⟨n', hn'⟩ : ∃ n, n = m.length := ⟨_, rfl⟩
  rw [← hn, ← hn']
  have hnb' : n' ≤ 9223372036854775807 := by rw [hn']; exact Nat.le_trans hB'.1 hB'.2.1
  obtain ⟨W, hW⟩ : ∃ W, W = w.alloc (.cells #[.slice a n c, .slice a' n' c'] 24) := ⟨_, rfl⟩
  have hB0 : Below w.heap.size w W := by rw [hW]; exact (Below.refl _ _).alloc (Nat.le_refl _) _
  have A : AllocAt W w.heap.size a n c a' n' c' b m := by rw [hW]; exact AllocAt.new hB hB' _
  have HB : Below W.heap.size W W := Below.refl _ _
  have cr := refRight_any a a' c c' n n' b m W hn hn' A.2.1 A.2.2
  cases hr : rightA b m with
  | false =>
    rw [hr, hW] at cr
    clear hn hn' hB hB'
    go_enter Try.func7, Try.ntmps7
    go_wp2_with (first
      | (go_at_call 13; refine cr.mono ?_; rintro e w1 ⟨rfl, hb⟩; rw [← hW] at hb; replace HB := Below.tr HB hb; clear hb)
      | (go_at_call 11; refine (alive_any _).mono ?_; rintro e w2 ⟨rfl, hb⟩; replace HB := Below.tr HB hb; clear hb))
    go_ret
    exact ⟨rfl, Below.tr hB0 HB⟩
  | true =>
    obtain ⟨hl, h24, h48, -⟩ := (rightA_iff b m).1 hr
    obtain rfl : n = n' := by omega
    rw [hr, hW] at cr
    by_cases h300 : (300 : Int) < n
    · clear hn hn' hB hB'
      go_enter Try.func7, Try.ntmps7
      go_wp2_with (first
        | (go_at_call 13; refine cr.mono ?_; rintro e w1 ⟨rfl, hb⟩; rw [← hW] at hb; replace HB := Below.tr HB hb; obtain ⟨⟨⟨q0, q1⟩, -, -⟩, -⟩ := A.below HB; clear hb)
        | (go_at_call 11; refine (alive_any _).mono ?_; rintro e w2 ⟨rfl, hb⟩; replace HB := Below.tr HB hb; clear hb))
      go_ret
      exact ⟨rfl, Below.tr hB0 HB⟩
    · have hfC : freeC b m = (freesL b m).length := by unfold freeC; rw [if_pos hr, freesL_length]
      obtain ⟨F, hF⟩ : ∃ F, Hid (F = (freesL b m).length) := ⟨_, rfl⟩
      have hFb : F ≤ 2048 := by rw [hF.out, ← hfC]; exact freeC_le _ _
      have cf : ∀ V, Below W.heap.size W V → Calls Try.prog 14 #[.agg #[.slice a n c, .slice a' n c']] V fun e w' => e = .returned (.int .i64 F) ∧ Below V.heap.size V w' := by
        intro V hV
        have := free_any a a' c c' n n b m V hn hn' (A.below hV).2.1 (A.below hV).2.2
        rw [hfC, ← hF.out] at this
        exact this
      have HN : Hid (n = b.length ∧ n = m.length ∧ rightA b m = true ∧ b.length = m.length) := ⟨hn, hn', hr, hl⟩
      -- a take of the first so many taken, and of all
      have ct : ∀ (V : World) (h j p : Nat) a1 c1 a2 c2, AllocAt V h a1 n c1 a2 n c2 b (fillN b m j) → (freesL b m)[j]? = some p → Calls Try.prog 16 #[.agg #[.slice a1 n c1, .slice a2 n c2]] V fun e w' => ∃ a3 c3 a4 c4, e = .returned (.tuple #[.agg #[.slice a3 n c3, .slice a4 n c4], .int .i64 p, .int .i64 0]) ∧ OwnT V.heap.size w' a3 c3 b ∧ OwnT V.heap.size w' a4 c4 (fillN b m (j + 1)) ∧ Below V.heap.size V w' := by
        intro V h j p a1 c1 a2 c2 hA hp
        obtain ⟨hn, hn', hr, hl⟩ := HN.out
        have h2 := fillN_take hl hp
        have hE := take_some (fillN_right hr j) h2.1
        obtain ⟨g1, g2, g3⟩ := take_ok hE h2.1
        have := take_any a1 a2 c1 c2 n n b (fillN b m j) V hn (by rw [fillN_length]; exact hn') hA.2.1 hA.2.2
        rw [hE, g1, g2, g3, h2.2, fillN_length, ← hn, ← hn'] at this
        exact this
      have ct2 : ∀ (V : World) (h : Nat) a1 c1 a2 c2, AllocAt V h a1 n c1 a2 n c2 b (fillN b m F) → Calls Try.prog 16 #[.agg #[.slice a1 n c1, .slice a2 n c2]] V fun e w' => ∃ a3 c3 a4 c4, e = .returned (.tuple #[.agg #[.slice a3 0 c3, .slice a4 0 c4], .int .i64 0, .int .i64 60]) ∧ Below V.heap.size V w' := by
        intro V h a1 c1 a2 c2 hA
        obtain ⟨hn, hn', hr, hl⟩ := HN.out
        have h2 := (fillN_full hl).1
        rw [← hF.out] at h2
        have hE := take_none (fillN_right hr F) h2
        obtain ⟨g1, g2, g3⟩ := take_err (b := b) (m := fillN b m F) (by rw [hE]; decide)
        have := take_any a1 a2 c1 c2 n n b (fillN b m F) V hn (by rw [fillN_length]; exact hn') hA.2.1 hA.2.2
        rw [hE, g1, g2, g3] at this
        exact this.mono fun e w' ⟨a3, c3, a4, c4, k1, k2, k3, k4⟩ => ⟨a3, c3, a4, c4, k1, k4⟩
      have cf2 : ∀ (V : World) (h : Nat) a1 c1 a2 c2, AllocAt V h a1 n c1 a2 n c2 b (fillN b m F) → Calls Try.prog 14 #[.agg #[.slice a1 n c1, .slice a2 n c2]] V fun e w' => e = .returned (.int .i64 0) ∧ Below V.heap.size V w' := by
        intro V h a1 c1 a2 c2 hA
        obtain ⟨hn, hn', hr, hl⟩ := HN.out
        have h0 : freeC b (fillN b m F) = 0 := by
          unfold freeC
          rw [if_pos (fillN_right hr F), fillN_length, hF.out]
          exact (fillN_full hl).2
        have := free_any a1 a2 c1 c2 n n b (fillN b m F) V hn (by rw [fillN_length]; exact hn') hA.2.1 hA.2.2
        rw [h0] at this
        exact this
      have cg : ∀ (V : World) (h t : Nat) a1 c1 a2 c2 a3 c3, AllocAt V h a1 n c1 a2 n c2 b (fillN b m F) → IsI V a3 c3 (turnL (freesI b m) t) → t ≤ F → Calls Try.prog 17 #[.agg #[.slice a1 n c1, .slice a2 n c2], .slice a3 F c3] V fun e w' => ∃ a4 c4 a5 c5, e = .returned (.tuple #[.agg #[.slice a4 n c4, .slice a5 n c5], .int .i64 0]) ∧ IsB w' a4 c4 b ∧ IsB w' a5 c5 m ∧ Below V.heap.size V w' := by
        intro V h t a1 c1 a2 c2 a3 c3 hA hI ht
        obtain ⟨hn, hn', hr, hl⟩ := HN.out
        have hg := fill_turned hr t
        rw [← hF.out] at hg
        obtain ⟨g1, g2, g3⟩ := give_some (fillN_right hr F) hg
        have := give_any a1 a2 a3 c1 c2 c3 n n F b (fillN b m F) (turnL (freesI b m) t) V hn (by rw [fillN_length]; exact hn') (by rw [turnL_length _ (by rw [freesI_length, ← hF.out]; exact ht), freesI_length]; exact hF.out) hA.2.1 hA.2.2 hI
        rw [g1, g2, g3, ← hn, ← hn'] at this
        exact this.mono fun e w' ⟨a4, c4, a5, c5, k1, k2, k3, k4⟩ => ⟨a4, c4, a5, c5, k1, k2.isB, k3.isB, k4⟩
      have cl : ∀ (V : World) (h : Nat) a1 c1 a2 c2, AllocAt V h a1 n c1 a2 n c2 b m → Below W.heap.size W V → Calls Try.prog 9 #[.agg #[.slice a1 n c1, .slice a2 n c2], .agg #[.slice a n c, .slice a' n c']] V fun e w' => e = .returned (.bool true) ∧ Below V.heap.size V w' :=
        fun V h a1 c1 a2 c2 x hV => like_at x (A.below hV) HN.out.1 HN.out.2.1
      have HF0 : Hid (fillN b m 0 = m) := fillN_zero b m
      clear hn hn' hB hB' hfC hl h24 h48 hr
      go_enter Try.func7, Try.ntmps7
      go_wp2_with (first
        | (go_at_call 13; refine cr.mono ?_; rintro e w1 ⟨rfl, hb⟩; rw [← hW] at hb; replace HB := Below.tr HB hb; have hWs := hb.size; obtain ⟨⟨⟨q0, q1⟩, -, -⟩, -⟩ := A.below HB; have q2 := cell_alloc q0; have q3 := cell_alloc q1; have X := AllocAt.new (n := n) (n' := n) (A.below HB).2.1 (A.below HB).2.2 24; replace HB := HB.alloc HB.size (.cells #[.slice a n c, .slice a' n c'] 24); clear hb cr)
        | (go_at_call 14; refine (cf _ HB).mono ?_; rintro e w2 ⟨rfl, hb⟩; replace HB := Below.tr HB hb; replace X := X.below hb; clear hb cf))
      obtain ⟨h1, hh⟩ : ∃ h1, h1 = w1.heap.size := ⟨_, rfl⟩
      have hWh1 : W.heap.size ≤ h1 := by rw [hh]; exact hWs
      rw [← hh] at X ⊢
      have hh1 := X.1.lt
      clear hh hWs
      go_loopw [6, 29] (fun u v wr => ∃ (j : Nat) (a1 : Option Addr) (c1 : Nat) (a2 : Option Addr) (c2 : Nat), j ≤ F ∧ v = .int .i64 j ∧ wr.ownsRow w2.heap.size 3 1 u j (((freesI b m).take j).map cellI) ∧ AllocAt wr h1 a1 n c1 a2 n c2 b (fillN b m j) ∧ Below W.heap.size W wr ∧ w2.heap.size ≤ wr.heap.size) (fun _ v _ => F - (intOf v).toNat)
      case atStart => exact ⟨0, a, c, a', c', by omega, rfl, ⟨rfl, .inl ⟨rfl, rfl⟩⟩, by rw [HF0.out]; exact X, HB, Nat.le_refl _⟩
      case round =>
        obtain ⟨j, a1, c1, a2, c2, hj, rfl, hown, hX, hbel, hsz⟩ := hrel
        obtain ⟨al, cl0, rfl, hIl⟩ := own_isI (l := (freesI b m).take j) (by rw [List.length_take, freesI_length, ← hF.out]; omega) hown
        have HI : Hid (IsI wr al cl0 ((freesI b m).take j)) := hIl
        have hcl0 : cl0 ≤ 9223372036854775807 := hIl.2.1
        have hjcl : j ≤ cl0 := by have := hIl.1; rw [List.length_take, freesI_length, ← hF.out] at this; omega
        clear hIl
        by_cases hlt : j < F
        · have hlt' : (j : Int) < F := by omega
          obtain ⟨p, hp⟩ : ∃ p, Hid ((freesL b m)[j]? = some p) := ⟨_, List.getElem?_eq_getElem (by rw [← hF.out]; exact hlt)⟩
          have hnx : Hid ((freesI b m).take (j + 1) = (freesI b m).take j ++ [(p : Int)]) := by show _ = _; rw [List.take_add_one, freesI_get hp.out]; rfl
          have cT := ct wr h1 j p a1 c1 a2 c2 hX hp.out
          have hXb := hX.1
          obtain ⟨⟨q0, q1⟩, -, -⟩ := id hXb
          by_cases hj0 : j = 0
          · subst hj0
            go_wp2_with (first
              | (go_at_call 16; refine cT.mono ?_; rintro e w3 ⟨a3, c3, a4, c4, rfl, o3, o4, hb⟩; obtain ⟨bx, g, cap, w5, run, HF⟩ := fill_step (n := n) (p := (p : Int)) hown hsz hh1 hXb o3 o4 hb hbel hWh1 (by omega); obtain ⟨⟨r0, r1⟩, f0, f1⟩ := bx; clear o3 o4 hb)
              | (at_builtin; refine Lib.wpList_append_run _ rfl _ _ _ _ rfl _ _ rfl rfl _ _ run ?_))
            go_roundw
            case rel => exact ⟨0 + 1, a3, c3, a4, c4, by omega, by go_num, by rw [hnx.out]; exact HF.out.1, HF.out.2⟩
            case measure => simp [intOf]; omega
          · obtain ⟨i, rfl⟩ : ∃ i, j = i + 1 := ⟨j - 1, by omega⟩
            obtain ⟨q, hq⟩ : ∃ p, (freesL b m)[i]? = some p := ⟨_, List.getElem?_eq_getElem (by rw [← hF.out]; omega)⟩
            have hqp : q < p := frees_lt hq hp.out (by omega)
            have hqp' : ¬ (p : Int) ≤ q := by omega
            obtain ⟨g0, o0, rfl, hg0, hc0⟩ := HI.out.2.2 i (q : Int) (by rw [List.getElem?_take_of_lt (by omega)]; exact freesI_get hq)
            have hw1 : IntKind.i64.wrap (i : Int) = i := i64_in _ (by omega) (by omega)
            clear hq
            go_wp2_with (first
              | (go_at_call 16; refine cT.mono ?_; rintro e w3 ⟨a3, c3, a4, c4, rfl, o3, o4, hb⟩; obtain ⟨bx, g, cap, w5, run, HF⟩ := fill_step (n := n) (p := (p : Int)) hown hsz hh1 hXb o3 o4 hb hbel hWh1 (by omega); obtain ⟨⟨r0, r1⟩, f0, f1⟩ := bx; have hc1 := cell_alloc (cell_below hb hc0); clear o3 o4 hb)
              | (at_builtin; refine Lib.wpList_append_run _ rfl _ _ _ _ rfl _ _ rfl rfl _ _ run ?_))
            go_roundw
            case rel => exact ⟨i + 1 + 1, a3, c3, a4, c4, by omega, by go_num, by rw [hnx.out]; exact HF.out.1, HF.out.2⟩
            case measure => simp [intOf]; omega
        · obtain rfl : j = F := by omega
          have hXb := hX.1
          obtain ⟨⟨q0, q1⟩, -, -⟩ := id hXb
          have cT := ct2 wr h1 a1 c1 a2 c2 hX
          have hjj : ¬ (j : Int) < j := by omega
          clear hown ct ct2 hj hlt X HB
          by_cases hj0 : j = 0
          · have hI0 : IsI wr al cl0 (turnL (freesI b m) 0) := by
              have : freesI b m = [] := List.length_eq_zero_iff.1 (by rw [freesI_length, ← hF.out]; exact hj0)
              rw [this]
              have h2 := HI.out
              rw [this, List.take_nil] at h2
              exact h2
            have HI2 : Hid (IsI wr al cl0 (turnL (freesI b m) 0)) := hI0
            subst hj0
            clear hI0 HI
            go_wp2_with (first
              | (go_at_call 16; refine cT.mono ?_; rintro e w3 ⟨a3, c3, a4, c4, rfl, hb⟩; have Y : Below wr.heap.size wr (w3.alloc (.cells #[.slice a3 0 c3, .slice a4 0 c4] 24)) := hb.alloc hb.size _; obtain ⟨⟨⟨r0, r1⟩, -, -⟩, -⟩ := hX.below hb; replace r0 := cell_alloc r0; replace r1 := cell_alloc r1; clear hb cT)
              | (go_at_call 14; refine (cf2 _ h1 a1 c1 a2 c2 (hX.below Y)).mono ?_; rintro e w4 ⟨rfl, hb⟩; replace Y := Below.tr Y hb; obtain ⟨⟨⟨r0, r1⟩, -, -⟩, -⟩ := hX.below Y; clear hb cf2)
              | (go_at_call 17; refine (cg _ h1 0 a1 c1 a2 c2 al cl0 (hX.below Y) (HI2.out.below Y) (by omega)).mono ?_; rintro e w5 ⟨a5, c5, a6, c6, rfl, k5, k6, hb⟩; replace Y := Below.tr Y hb; have Z := AllocAt.new (n := n) (n' := n) k5 k6 24; replace Y := Y.alloc Y.size (.cells #[.slice a5 n c5, .slice a6 n c6] 24); clear hb cg k5 k6)
              | (go_at_call 11; refine (alive_any _).mono ?_; rintro e w6 ⟨rfl, hb⟩; replace Y := Below.tr Y hb; replace Z := Z.below hb; obtain ⟨⟨⟨s0, s1⟩, -, -⟩, -⟩ := id Z; have HB6 := Below.tr hbel Y; obtain ⟨⟨⟨y0, y1⟩, -, -⟩, -⟩ := A.below HB6; clear hb)
              | (go_at_call 9; refine (cl _ _ a5 c5 a6 c6 Z HB6).mono ?_; rintro e w7 ⟨rfl, hb⟩; replace Y := Below.tr Y hb; clear hb))
            go_ret
            exact ⟨rfl, Below.tr hB0 (Below.tr hbel Y)⟩
          · have hjp : (0 : Int) < j := by omega
            have hz : -9223372036854775808 ≤ z ∧ z ≤ 9223372036854775807 := by simpa [Lit.wf, IntKind.min, IntKind.max, IntKind.signed, IntKind.bits] using wz
            obtain ⟨r, t, hr, hr1, hr2, hrt, htn⟩ := rem_place z j (by omega)
            have hn0 : (j : Int) ≠ 0 := by omega
            have e0 : ((j : Int) == 0) = false := by rw [beq_eq_false_iff_ne]; exact hn0
            obtain ⟨g0, o0, rfl, hg0, -⟩ := HI.out.2.2 0 _ (List.getElem?_eq_getElem (by rw [List.length_take, freesI_length, ← hF.out]; omega))
            have HI2 : Hid (IsI wr (some ⟨g0, o0, none⟩) cl0 (freesI b m) ∧ (freesI b m).length = j) := by
              have hl : (freesI b m).length = j := by rw [freesI_length, ← hF.out]
              refine ⟨?_, hl⟩
              have := HI.out
              rw [← hl, List.take_length] at this
              exact this
            clear HI wz
            go_wp2_with (first
              | (go_at_call 16; refine cT.mono ?_; rintro e w3 ⟨a3, c3, a4, c4, rfl, hb⟩; have Y : Below wr.heap.size wr (w3.alloc (.cells #[.slice a3 0 c3, .slice a4 0 c4] 24)) := hb.alloc hb.size _; obtain ⟨⟨⟨r0, r1⟩, -, -⟩, -⟩ := hX.below hb; replace r0 := cell_alloc r0; replace r1 := cell_alloc r1; clear hb cT)
              | (go_at_call 14; refine (cf2 _ h1 a1 c1 a2 c2 (hX.below Y)).mono ?_; rintro e w4 ⟨rfl, hb⟩; replace Y := Below.tr Y hb; obtain ⟨⟨⟨r0, r1⟩, -, -⟩, -⟩ := hX.below Y; clear hb cf2))
            have hY := Y.size
            obtain ⟨g1, cap1, w5, g2, cap2, w6, run1, run2, HT⟩ := turn_step w4.drew (t := t) HI2.out.2 ((HI2.out.1.below Y).below (Below.refl _ _).drew) (show g0 < w4.heap.size by omega) htn (by omega) hjcl
            have k1 : (0 : Int) ≤ t := by omega
            have k2 : (t : Int) ≤ j := by omega
            have k3 : (j : Int) ≤ cl0 := by omega
            have k4 : (t : Int) ≤ cl0 := by omega
            have k5 : t < cl0 := by omega
            have k6 : ¬ t = cl0 := by omega
            refine region_worlds (by kernel_rfl) [0, 4, 8] (turnV w4.heap.size g0 o0 j t cl0 g1 cap1 g2 cap2) (fourW w4.drew (w4.drew.alloc (.cells #[] 3)) w5 w6)
              (by kernel_rfl) (by kernel_rfl) rfl ?step 10 rfl ?done
            case step =>
              intro i o ho k ac hk hmay hdf hsz hdep hsame
              match i, ho with
              | 0, ho =>
                cases ho
                match k, hk, hmay with
                | 0, _, _ => exact val_op rfl (wanted_free rfl) (by clear hdep hsame hsz hdf; simp only [turnV, fourW]; go_simp) rfl rfl
                | 1, _, h => cases h
                | 2, _, h => cases h
                | 3, _, h => cases h
                | k + 4, hk, _ => simp at hk
              | 1, ho =>
                cases ho
                have h6 := hsame 6 rfl
                exact val_op rfl (wanted_free rfl) (by clear hdep hsame hsz hdf; simp only [turnV]; go_simp) rfl rfl
              | 2, ho =>
                cases ho
                have h6 := hsame 1 rfl
                exact val_op rfl (wanted_free rfl) (by clear hdep hsame hsz hdf; simp only [turnV]; go_simp) rfl rfl
              | 3, ho =>
                cases ho
                have h85 := hdep 1 _ 85 rfl rfl rfl
                have h86 := hdep 2 _ 86 rfl rfl rfl
                simp only [turnV] at h85 h86
                exact val_op rfl (wanted_free rfl) (by clear hdep hsame hsz hdf; simp only [turnV]; go_simp; intro hh; omega) rfl rfl
              | 4, ho =>
                cases ho
                have h84 := eval_tmp (hdep 0 _ 84 rfl rfl rfl)
                have h87 := eval_tmp (hdep 3 _ 87 rfl rfl rfl)
                simp only [turnV] at h84 h87
                match k, hk, hmay with
                | 1, _, _ => exact val_append rfl (wanted_free rfl) rfl h84 h87 run1 rfl rfl
                | 0, _, h => cases h
                | 2, _, h => cases h
                | 3, _, h => cases h
                | k + 4, hk, _ => simp at hk
              | 5, ho =>
                cases ho
                have h6 := hsame 6 rfl
                exact val_op rfl (wanted_free rfl) (by clear hdep hsame hsz hdf; simp only [turnV]; go_simp) rfl rfl
              | 6, ho =>
                cases ho
                have h6 := hsame 1 rfl
                exact val_op rfl (wanted_free rfl) (by clear hdep hsame hsz hdf; simp only [turnV]; go_simp) rfl rfl
              | 7, ho =>
                cases ho
                have h89 := hdep 5 _ 89 rfl rfl rfl
                have h90 := hdep 6 _ 90 rfl rfl rfl
                simp only [turnV] at h89 h90
                exact val_op rfl (wanted_free rfl) (by clear hdep hsame hsz hdf; simp only [turnV]; go_simp) rfl rfl
              | 8, ho =>
                cases ho
                have h88 := eval_tmp (hdep 4 _ 88 rfl rfl rfl)
                have h91 := eval_tmp (hdep 7 _ 91 rfl rfl rfl)
                simp only [turnV] at h88 h91
                match k, hk, hmay with
                | 2, _, _ => exact val_append rfl (wanted_free rfl) rfl h88 h91 run2 rfl rfl
                | 0, _, h => cases h
                | 1, _, h => cases h
                | 3, _, h => cases h
                | k + 4, hk, _ => simp at hk
              | 9, ho =>
                cases ho
                have h92 := hdep 8 _ 92 rfl rfl rfl
                simp only [turnV] at h92
                exact val_op rfl (wanted_free rfl) (by clear hdep hsame hsz hdf; simp only [turnV]; go_simp) rfl rfl
              | k + 10, ho => simp at ho
            case done =>
              simp [filledN, turnV, fourW]
              have Y6 : Below wr.heap.size wr w6 := Below.tr Y.drew HT.out.2
              have HI6 : Hid (IsI w6 (some ⟨g2, 0, none⟩) cap2 (turnL (freesI b m) t)) := HT.out.1
              obtain ⟨⟨⟨s0, s1⟩, -, -⟩, -⟩ := hX.below Y6
              clear run1 run2 HT Y HI2
              go_wp2_with (first
                | (go_at_call 17; refine (cg _ h1 t a1 c1 a2 c2 (some ⟨g2, 0, none⟩) cap2 (hX.below Y6) HI6.out (by omega)).mono ?_; rintro e w7 ⟨a5, c5, a6, c6, rfl, k5, k6, hb⟩; replace Y6 := Below.tr Y6 hb; have Z := AllocAt.new (n := n) (n' := n) k5 k6 24; replace Y6 := Y6.alloc Y6.size (.cells #[.slice a5 n c5, .slice a6 n c6] 24); clear hb cg k5 k6)
                | (go_at_call 11; refine (alive_any _).mono ?_; rintro e w8 ⟨rfl, hb⟩; replace Y6 := Below.tr Y6 hb; replace Z := Z.below hb; obtain ⟨⟨⟨x0, x1⟩, -, -⟩, -⟩ := id Z; have HB6 := Below.tr hbel Y6; obtain ⟨⟨⟨y0, y1⟩, -, -⟩, -⟩ := A.below HB6; clear hb)
                | (go_at_call 9; refine (cl _ _ a5 c5 a6 c6 Z HB6).mono ?_; rintro e w9 ⟨rfl, hb⟩; replace Y6 := Below.tr Y6 hb; clear hb))
              go_ret
              exact ⟨rfl, Below.tr hB0 (Below.tr hbel Y6)⟩

end Go.Proofs.Ytomjajmjooaegaa

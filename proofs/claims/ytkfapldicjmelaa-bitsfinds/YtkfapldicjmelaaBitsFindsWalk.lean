/-
  The walk through the statement BitsFinds.
-/
import Derived.Test.YtkfapldicjmelaaBitsRefFind
import Derived.Test.YtkfapldicjmelaaBitsWith
import Derived.RegionTactic
import Derived.ChangeAlike
namespace Go.Proofs.Ytkfapldicjmelaa
open Go.RowKit Plain
set_option linter.unusedVariables false

/-- A row of slices that the call itself owns. -/
def RowL (w : World) (g cap : Nat) (ds : List (Option Addr × Nat × List Bool)) : Prop :=
  ∃ cur : Array Value, w.heap[g]? = some (.cells cur 22 (0, 0)) ∧ cur.toList.take ds.length = ds.map valS ∧ ds.length ≤ cap ∧ cap ≤ maxLen ∧ cur.size = cap

theorem RowL.lt {w : World} {g cap : Nat} {ds : List (Option Addr × Nat × List Bool)} (h : RowL w g cap ds) : g < w.heap.size := by
  obtain ⟨cur, hg, _⟩ := h
  exact (Array.getElem?_eq_some_iff.1 hg).1

theorem RowL.below {w w' : World} {g cap : Nat} {ds : List (Option Addr × Nat × List Bool)} (h : RowL w g cap ds) (hb : Below w.heap.size w w') : RowL w' g cap ds := by
  have hl := h.lt
  obtain ⟨cur, hg, hr⟩ := h
  exact ⟨cur, by rw [hb.block g hl]; exact hg, hr⟩

theorem RowL.cell {w : World} {g cap : Nat} {ds : List (Option Addr × Nat × List Bool)} (h : RowL w g cap ds) {j : Nat} {d : (Option Addr × Nat × List Bool)} (hx : ds[j]? = some d) : w.cell? ⟨g, j, none⟩ = some (.slice d.1 d.2.2.length d.2.1) ∧ w.frozen? ⟨g, j, none⟩ = false := by
  obtain ⟨cur, hg, ht, hl, _, hs⟩ := h
  have hj := (List.getElem?_eq_some_iff.1 hx).1
  have hc : cur[j]? = some (valS d) := by
    rw [← Array.getElem?_toList]
    have : (cur.toList.take ds.length)[j]? = some (valS d) := by rw [ht, List.getElem?_map, hx]; rfl
    rwa [List.getElem?_take_of_lt hj] at this
  exact ⟨by rw [Joins.cell_of_block hg]; exact hc, Joins.unfrozen_of_block hg j⟩

theorem RowL.set {w : World} {g cap : Nat} {ds : List (Option Addr × Nat × List Bool)} (h : RowL w g cap ds) (j : Nat) (d : (Option Addr × Nat × List Bool)) : RowL (w.setCell ⟨g, j, none⟩ (.slice d.1 d.2.2.length d.2.1)) g cap (ds.set j d) := by
  obtain ⟨cur, hg, ht, hl, hm, hs⟩ := h
  refine ⟨_, Joins.block_setCell hg _, ?_, by rw [List.length_set]; exact hl, hm, by rw [Array.size_setIfInBounds]; exact hs⟩
  rw [List.length_set, Array.toList_setIfInBounds, List.take_set, ht, List.map_set]
  rfl

theorem RowL.isL {w : World} {g cap : Nat} {ds : List (Option Addr × Nat × List Bool)} (h : RowL w g cap ds) (hB : ∀ d ∈ ds, IsB w d.1 d.2.1 d.2.2) : IsL w (some ⟨g, 0, none⟩) cap ds := by
  have hl := h.lt
  have hc := h
  obtain ⟨cur, hg, ht, h1, h2, hs⟩ := h
  exact ⟨h1, h2, fun j x hx => ⟨hB x (List.mem_of_getElem? hx), g, 0, rfl, hl, by rw [Nat.zero_add]; exact (hc.cell hx).1⟩⟩

theorem isL_src {w : World} {ad : Addr} {c : Nat} {ds : List (Option Addr × Nat × List Bool)} (h : IsL w (some ad) c ds) : ∀ j u, (ds.map valS)[j]? = some u → w.cell? (ad.add j) = some u := by
  intro j u hj
  rw [List.getElem?_map] at hj
  obtain ⟨x, hx, rfl⟩ := Option.map_eq_some_iff.1 hj
  obtain ⟨_, b', o', ha, _, hc⟩ := h.2.2 j x hx
  cases ha
  rw [at_add]
  exact hc

/-- 'append([][]bool{}, l...)': a row of the call's own. -/
theorem copyL (W : World) (a : Option Addr) (c n : Nat) (ds : List (Option Addr × Nat × List Bool)) (hn : n = ds.length) (hL : IsL W a c ds) (hz : n ≤ 4096) (ty : TypeId) :
    ∃ g cap w', (Builtin.append_ #[31, 31] ty #[.slice (some ⟨W.heap.size, 0, none⟩) 0 0, .slice a n c]).run Try.prog (W.alloc (.cells #[] 22)) = .ok (.slice (some ⟨g, 0, none⟩) n cap) w' ∧ W.heap.size ≤ g ∧ RowL w' g cap ds ∧ Below W.heap.size W w' := by
  subst hn
  obtain ⟨i0, hi, hz0, hz1, hz2⟩ := info_parts Try.info22
  have hown := World.ownsRow_made (base := W.heap.size) (e := 22) (size := 1) W #[] 0 (Nat.le_refl _) (Nat.zero_le _) rfl
  have hB0 := (Below.refl W.heap.size W).alloc (Nat.le_refl _) (.cells #[] 22)
  cases a with
  | none =>
    have h0 : ds = [] := by
      rcases Nat.eq_zero_or_pos ds.length with h | h
      · exact List.length_eq_zero_iff.1 h
      · obtain ⟨b, o, hh, _⟩ := hL.some h
        cases hh
    subst h0
    refine ⟨W.heap.size, 0, _, run_append_none W.heap.size _ ty _ i0 1 0 c rfl Try.underlying31 hi _ _ _ hown, Nat.le_refl _, ⟨#[], ?_, rfl, Nat.le_refl _, Nat.zero_le _, rfl⟩, hB0⟩
    exact heap_new W _
  | some ad =>
    obtain ⟨v', w', hr, h2, h3, h4⟩ := run_append_own (P := Try.prog) (W.alloc (.cells #[] 22)) W.heap.size 31 ty 22 i0 _ 1 24 Try.underlying31 hi hz0 hz1 hz2 rfl (by decide) _ 0 _ hown ad ds.length c (ds.map valS) (by simp) (isL_src (hL.below hB0))
      (fun u hu => by obtain ⟨x, _, rfl⟩ := List.mem_map.1 hu; rfl) (by have := hL.1; have := hL.2.1; unfold maxLen at *; omega) (by omega) (by simp)
    rcases h2.2 with ⟨h, _⟩ | ⟨g, cap, cur, h, hg, hcur, hnc, hcm, hsz, htk⟩
    · exact absurd (h4.1 h).1 (by simp)
    · subst h
      refine ⟨g, cap, w', by rw [hr, Nat.zero_add], hg, ⟨cur, hcur, by simpa using htk, by omega, hcm, by omega⟩, hB0.grown h3 (by simp) (by intro k hk; simp [Value.ownBlock] at hk; omega)⟩

/-- Each row cut to 300 places. -/
def cutD (d : (Option Addr × Nat × List Bool)) : (Option Addr × Nat × List Bool) := (d.1, d.2.1, d.2.2.take 300)

/-- The first so many are cut. -/
def cutN (ds : List (Option Addr × Nat × List Bool)) (j : Nat) : List (Option Addr × Nat × List Bool) := (ds.take j).map cutD ++ ds.drop j

theorem cutN_zero (ds : List (Option Addr × Nat × List Bool)) : cutN ds 0 = ds := by simp [cutN]
theorem cutN_length (ds : List (Option Addr × Nat × List Bool)) (j : Nat) : (cutN ds j).length = ds.length := by simp [cutN]; omega
theorem cutN_all (ds : List (Option Addr × Nat × List Bool)) : cutN ds ds.length = ds.map cutD := by simp [cutN]

theorem cutN_at {ds : List (Option Addr × Nat × List Bool)} {j : Nat} {x : (Option Addr × Nat × List Bool)} (h : ds[j]? = some x) : (cutN ds j)[j]? = some x := by
  have hj := (List.getElem?_eq_some_iff.1 h).1
  unfold cutN
  rw [List.getElem?_append_right (by simp; omega), List.length_map, List.length_take, Nat.min_eq_left (by omega), Nat.sub_self, List.getElem?_drop, Nat.add_zero]
  exact h

theorem cutN_succ {ds : List (Option Addr × Nat × List Bool)} {j : Nat} {x : (Option Addr × Nat × List Bool)} (h : ds[j]? = some x) : cutN ds (j + 1) = (cutN ds j).set j (cutD x) := by
  have hj := (List.getElem?_eq_some_iff.1 h).1
  unfold cutN
  rw [List.take_add_one, h, List.map_append, List.set_append_right _ _ (by simp; omega), List.length_map, List.length_take, Nat.min_eq_left (by omega), Nat.sub_self, List.drop_eq_getElem_cons hj, List.set_cons_zero, List.append_assoc]
  rfl

set_option maxRecDepth 20000 in
set_option maxHeartbeats 4000000 in
theorem bitsFinds_walk (a : Option Addr) (c : Nat) (ds0 : List (Option Addr × Nat × List Bool)) (fr : Int) (w : World) (hL0 : IsL w a c ds0) (wf : (Lit.int .i64 fr).wf = true) :
    Calls Try.prog 4 #[.slice a ds0.length c, .int .i64 fr] w fun e w' => e = .returned (.bool true) ∧ Below w.heap.size w w' := by
  obtain ⟨ds, hds⟩ : ∃ ds, ds = ds0.take 5 := ⟨_, rfl⟩
  have hL : IsL w a c ds := by rw [hds]; exact hL0.take 5
  obtain ⟨p, hp⟩ : ∃ n, n = ds.length := ⟨_, rfl⟩
  have hmin : min (ds0.length : Int) 5 = (p : Int) := by rw [hp, hds, List.length_take]; omega
  have hl : p ≤ 5 := by rw [hp, hds, List.length_take]; omega
  have hnc : p ≤ c := by rw [hp]; exact hL.1
  have hm : ds0.length ≤ 9223372036854775807 := Nat.le_trans hL0.1 hL0.2.1
  have hc' : c ≤ 9223372036854775807 := hL0.2.1
  obtain ⟨m, hmm⟩ : ∃ m, m = ds0.length := ⟨_, rfl⟩
  have hlc : m ≤ c := by rw [hmm]; exact hL0.1
  rw [← hmm] at hmin hm ⊢
  have hmr := min_run hmin
  obtain ⟨g, cap, w1, hrun, hg, hrow, hb1⟩ := copyL w a c p ds hp hL (by omega) 31
  have HR : Hid (RowL w1 g cap (cutN ds 0)) := by rw [cutN_zero]; exact hrow
  have HP : Hid (p = ds.length) := hp
  have HL : Hid (IsL w a c ds) := hL
  clear hL0 hL hds hmm hp hrow
  go_enter Try.func4, Try.ntmps4
  go_wp2_with (at_builtin; refine Lib.wpList_append_run _ rfl _ _ _ _ rfl _ _ rfl rfl _ _ hrun ?_)
  go_loopw [15] (fun v wr => ∃ j : Nat, j ≤ p ∧ v = .int .i64 j ∧ RowL wr g cap (cutN ds j) ∧ Below w.heap.size w wr) (fun v _ => p - (intOf v).toNat)
  case atStart => exact ⟨0, by omega, rfl, HR.out, hb1⟩
  case round =>
    obtain ⟨j, hj, rfl, hrow, hbel⟩ := hrel
    have HW : Hid (RowL wr g cap (cutN ds j)) := hrow
    clear hrow
    by_cases hlt : j < p
    · have hlt' : (j : Int) < p := by omega
      obtain ⟨d, hd⟩ : ∃ d, Hid (ds[j]? = some d) := ⟨_, List.getElem?_eq_getElem (by rw [← HP.out]; exact hlt)⟩
      obtain ⟨hcx, hfx⟩ := HW.out.cell (cutN_at hd.out)
      have hdB := (HL.out.2.2 j d hd.out).1
      obtain ⟨k, hk⟩ : ∃ k, k = d.2.2.length := ⟨_, rfl⟩
      obtain ⟨q, hq⟩ : ∃ q, q = (d.2.2.take 300).length := ⟨_, rfl⟩
      have hmin2 : min (k : Int) 300 = (q : Int) := by rw [hk, hq, List.length_take]; omega
      have hset : Hid (RowL (wr.setCell ⟨g, j, none⟩ (.slice d.1 q d.2.1)) g cap (cutN ds (j + 1))) := by
        show RowL _ _ _ _
        rw [cutN_succ hd.out, hq]
        exact HW.out.set j (cutD d)
      have hkc : k ≤ d.2.1 := by rw [hk]; exact hdB.1
      have hdc : d.2.1 ≤ 9223372036854775807 := hdB.2.1
      rw [← hk] at hcx
      generalize d.1 = da at hcx hset
      generalize d.2.1 = dc at hcx hset hkc hdc
      have hqc : q ≤ dc := by omega
      have hmr2 := min_run hmin2
      clear hdB hk hq hd HW
      go_wp2
      go_region
      go_wp2
      go_roundw
      case rel => exact ⟨j + 1, by omega, by go_num, hset.out.below (Below.refl _ _).drew, (hbel.setCell (p := ⟨g, j, none⟩) hg _).drew⟩
      case measure => simp [intOf]; omega
    · obtain rfl : j = p := by omega
      obtain ⟨es, hes⟩ : ∃ es, Hid (es = ds.map cutD) := ⟨_, rfl⟩
      have hjl : j = es.length := by rw [hes.out, List.length_map]; exact HP.out
      have hLe : IsL wr (some ⟨g, 0, none⟩) cap es := by
        have hr := HW.out
        rw [HP.out, cutN_all, ← hes.out] at hr
        refine hr.isL fun d hd => ?_
        rw [hes.out] at hd
        obtain ⟨x, hx, rfl⟩ := List.mem_map.1 hd
        obtain ⟨i, hi⟩ := List.getElem?_of_mem hx
        exact ((HL.out.2.2 i x hi).1.take 300).below hbel
      have hbe : ∀ l ∈ rowsOf es, l.length ≤ 4096 := by
        intro l hl
        rw [hes.out] at hl
        unfold rowsOf at hl
        rw [List.map_map] at hl
        obtain ⟨x, hx, rfl⟩ := List.mem_map.1 hl
        show (x.2.2.take 300).length ≤ 4096
        rw [List.length_take]; omega
      obtain ⟨C, hC⟩ : ∃ C, C = countB (rowsOf es) := ⟨_, rfl⟩
      obtain ⟨F, hF⟩ : ∃ F, F = firstB fr (rowsOf es) := ⟨_, rfl⟩
      have c1 : ∀ W, Below wr.heap.size wr W → Calls Try.prog 16 #[.slice (some ⟨g, 0, none⟩) j cap] W fun e w' => e = .returned (.int .i64 C) ∧ W = w' := by
        intro W hW; rw [hC, hjl]; exact count_any _ _ es W (hLe.below hW)
      have c2 : ∀ W, Below wr.heap.size wr W → Calls Try.prog 17 #[.slice (some ⟨g, 0, none⟩) j cap] W fun e w' => e = .returned (.int .i64 C) ∧ W = w' := by
        intro W hW; rw [hC, hjl]; exact refCount_any _ _ es W (hLe.below hW)
      have c3 : ∀ W, Below wr.heap.size wr W → Calls Try.prog 18 #[.int .i64 fr, .slice (some ⟨g, 0, none⟩) j cap] W fun e w' => e = .returned (.int .i64 F) ∧ Below W.heap.size W w' := by
        intro W hW; rw [hF, hjl]; exact first_any fr _ _ es W (hLe.below hW) hbe
      have c4 : ∀ W, Below wr.heap.size wr W → Calls Try.prog 19 #[.int .i64 fr, .slice (some ⟨g, 0, none⟩) j cap] W fun e w' => e = .returned (.int .i64 F) ∧ W = w' := by
        intro W hW; rw [hF, hjl]; exact refFirst_any fr _ _ es W (hLe.below hW)
      have HB : Below wr.heap.size wr wr := Below.refl _ _
      clear hjl hLe hbe hC hF HW HR HL hes
      go_wp2_with (first
        | (go_at_call 12; refine (alive_any _).mono ?_; rintro e w2 ⟨rfl, hb⟩; replace HB := Below.tr HB hb; clear hb)
        | (go_at_call 16; refine (c1 _ HB).mono ?_; rintro e w3 ⟨rfl, rfl⟩)
        | (go_at_call 17; refine (c2 _ HB).mono ?_; rintro e w4 ⟨rfl, rfl⟩)
        | (go_at_call 18; refine (c3 _ HB).mono ?_; rintro e w5 ⟨rfl, hb⟩; replace HB := Below.tr HB hb; clear hb)
        | (go_at_call 19; refine (c4 _ HB).mono ?_; rintro e w6 ⟨rfl, rfl⟩))
      go_ret
      exact ⟨rfl, Below.tr hbel HB⟩

end Go.Proofs.Ytkfapldicjmelaa

/-
  Package device's Read.
-/
import Derived.Test.YtogadbckiaghcaaDevBack
import Derived.Test.YtogadbckiaghcaaDevFlush
namespace Go.Proofs.Ytogadbckiaghcaa
open Go.RowKit Go.Shelf Plain
set_option linter.unusedVariables false
attribute [local go_sem] Oper.semAt_some

/-- What Read tells. -/
def readS (bs : List ByteArray) (ps : List (Int × ByteArray)) (k : Int) : ByteArray := if checkE bs ps k = 0 then tellsS bs ps k.toNat else ByteArray.empty

theorem readS_bad {bs : List ByteArray} {ps : List (Int × ByteArray)} {k : Int} (h : checkE bs ps k ≠ 0) : readS bs ps k = ByteArray.empty := if_neg h

theorem checkE_zero {bs : List ByteArray} {ps : List (Int × ByteArray)} {k : Int} (h : checkE bs ps k = 0) : rightD bs ps = true ∧ 0 ≤ k ∧ k < bs.length := by
  unfold checkE at h
  split at h
  · rename_i hr
    split at h
    · rename_i hk
      rw [Bool.and_eq_true, decide_eq_true_eq, decide_eq_true_eq] at hk
      exact ⟨hr, hk⟩
    · cases h
  · cases h

theorem tellOn_none (k : Int) (s : ByteArray) (ps : List (Int × ByteArray)) (h : ∀ p ∈ ps, p.1 ≠ k) : tellOn k s ps = s := by
  induction ps generalizing s with
  | nil => rfl
  | cons p ps ih =>
    show tellOn k (if p.1 = k then p.2 else s) ps = s
    rw [if_neg (h p List.mem_cons_self)]
    exact ih s fun q hq => h q (List.mem_cons_of_mem p hq)

/-- None of the last so many writes goes to that block. -/
theorem tell_back {k : Int} (s : ByteArray) {ps : List (Int × ByteArray)} {m : Nat} (hm : m ≤ ps.length) (h : ∀ x ∈ backL ps m, x.2.1 ≠ k) : tellOn k s ps = tellOn k s (ps.take (ps.length - m)) := by
  conv => lhs; rw [← List.take_append_drop (ps.length - m) ps]
  rw [tellOn_append]
  refine tellOn_none k _ _ fun p hp => ?_
  obtain ⟨i, hi⟩ := List.mem_iff_getElem?.1 hp
  rw [List.getElem?_drop] at hi
  have hlt := (List.getElem?_eq_some_iff.1 hi).1
  have := h (backAt ps (m - 1 - i)) (by unfold backL; exact List.mem_map.2 ⟨m - 1 - i, List.mem_range.2 (by omega), rfl⟩)
  unfold backAt at this
  rw [show ps.length - 1 - (m - 1 - i) = ps.length - m + i by omega, hi] at this
  exact this

theorem tell_all {k : Int} (s : ByteArray) {ps : List (Int × ByteArray)} (h : ∀ x ∈ backL ps ps.length, x.2.1 ≠ k) : tellOn k s ps = s := by
  rw [tell_back s (Nat.le_refl _) h, Nat.sub_self]; rfl

theorem tell_last {k : Int} (s : ByteArray) {ps : List (Int × ByteArray)} {m : Nat} (hm : m ≤ ps.length) {ini : List (Int × (Int × ByteArray))} {last : Int × (Int × ByteArray)} (e : backL ps m = ini ++ [last]) (h : ∀ x ∈ ini, x.2.1 ≠ k) (hl : last.2.1 = k) : tellOn k s ps = last.2.2 := by
  obtain ⟨i, rfl⟩ : ∃ i, m = i + 1 := by
    cases m with
    | zero => simp [backL] at e
    | succ i => exact ⟨i, rfl⟩
  rw [backL_succ] at e
  obtain ⟨rfl, e2⟩ := List.append_inj' e rfl
  obtain rfl : backAt ps i = last := by simpa using e2
  rw [tell_back s (m := i) (by omega) h, show ps.length - i = (ps.length - 1 - i) + 1 by omega, List.take_add_one]
  unfold backAt at hl ⊢
  obtain ⟨p, hp⟩ : ∃ p, ps[ps.length - 1 - i]? = some p := ⟨_, List.getElem?_eq_getElem (by omega)⟩
  rw [hp] at hl ⊢
  rw [tellOn_append]
  show (if p.1 = k then p.2 else _) = p.2
  exact if_pos hl

/-- The boxes of Read. -/
theorem read_boxes {w W : World} {v0 v1 v2 v3 v4 : Value} {t0 t1 t2 t3 : TypeId} (hW : W = (((w.alloc (.cells #[v0, v1] t0)).alloc (.cells #[v2] t1)).alloc (.cells #[v3] t2)).alloc (.cells #[v4] t3)) :
    Below w.heap.size w W ∧ W.heap.size = w.heap.size + 4 ∧ (W.cell? ⟨w.heap.size, 0, none⟩ = some v0 ∧ W.cell? ⟨w.heap.size, 1, none⟩ = some v1) ∧ W.cell? ⟨w.heap.size + 1, 0, none⟩ = some v2 ∧
      (W.cell? ⟨w.heap.size + 1 + 1, 0, none⟩ = some v3 ∧ W.frozen? ⟨w.heap.size + 1 + 1, 0, none⟩ = false) ∧ W.cell? ⟨w.heap.size + 1 + 1 + 1, 0, none⟩ = some v4 ∧ W.frozen? ⟨w.heap.size + 1 + 1 + 1, 0, none⟩ = false := by
  subst hW
  refine ⟨((((Below.refl _ _).alloc (Nat.le_refl _) _).alloc (by simp) _).alloc (by simp; omega) _).alloc (by simp; omega) _, by simp, ⟨?_, ?_⟩, ?_, ⟨?_, ?_⟩, ?_, ?_⟩
  · exact Lib.cell?_alloc_some _ (Lib.cell?_alloc_some _ (Lib.cell?_alloc_some _ (World.cell?_alloc_at _ _ _ _ rfl)))
  · exact Lib.cell?_alloc_some _ (Lib.cell?_alloc_some _ (Lib.cell?_alloc_some _ (World.cell?_alloc_at _ _ _ _ rfl)))
  · exact Lib.cell?_alloc_some _ (Lib.cell?_alloc_some _ (World.cell?_alloc_at _ _ _ _ (by simp)))
  · exact Lib.cell?_alloc_some _ (World.cell?_alloc_at _ _ _ _ (by simp))
  · exact frozen_alloc (by simp) (frozen_new _ _ _ _ _ (by simp)) _
  · exact World.cell?_alloc_at _ _ _ _ (by simp)
  · exact frozen_new _ _ _ _ _ (by simp)

theorem two_set {X : World} {b0 b1 : Nat} {u0 u1 : Value} (v0 v1 : Value) (hn : b0 ≠ b1) (e0 : X.cell? ⟨b0, 0, none⟩ = some u0) (e1 : X.cell? ⟨b1, 0, none⟩ = some u1) :
    ((X.setCell ⟨b0, 0, none⟩ v0).setCell ⟨b1, 0, none⟩ v1).cell? ⟨b0, 0, none⟩ = some v0 ∧ ((X.setCell ⟨b0, 0, none⟩ v0).setCell ⟨b1, 0, none⟩ v1).cell? ⟨b1, 0, none⟩ = some v1 := by
  refine ⟨?_, ?_⟩
  · rw [World.cell?_setCell_other _ _ _ _ (fun hh => hn (by cases hh; rfl))]
    exact World.cell?_setCell_same _ _ _ e0
  · refine World.cell?_setCell_same _ _ _ (u := u1) ?_
    rw [World.cell?_setCell_other _ _ _ _ (fun hh => hn (by cases hh; rfl))]
    exact e1

set_option maxRecDepth 100000 in
set_option maxHeartbeats 4000000 in
theorem read_any (a a' : Option Addr) (c c' : Nat) (bs : List ByteArray) (ps : List (Int × ByteArray)) (k : Int) (w : World) (hS : IsS w a c bs) (hP : IsP w a' c' ps) :
    Calls Try.prog 15 #[.agg #[.slice a bs.length c, .slice a' ps.length c'], .int .i64 k] w fun e w' => e = .returned (.tuple #[.string (readS bs ps k), .int .i64 (checkE bs ps k)]) ∧ Below w.heap.size w w' := by
  obtain ⟨W, hW⟩ : ∃ W, W = (((w.alloc (.cells #[.slice a bs.length c, .slice a' ps.length c'] 25)).alloc (.cells #[.int .i64 k] 3)).alloc (.cells #[.string ⟨#[]⟩] 9)).alloc (.cells #[.int .i64 0] 27) := ⟨_, rfl⟩
  obtain ⟨hB0, hWs, ⟨d0, d1⟩, k0, ⟨e0, f0⟩, e1, f1⟩ := read_boxes hW
  have c1 := checkBlock_any a a' c c' bs ps k W (hS.below hB0) (hP.below hB0)
  have HP : Hid (IsP w a' c' ps) := hP
  have HS : Hid (IsS w a c bs) := hS
  clear hS hP
  refine (callsIn_wide (n := 3)).1 ?_
  by_cases hk : checkE bs ps k = 0
  · have hrs : Hid (readS bs ps k = tellsS bs ps k.toNat) := if_pos hk
    obtain ⟨hr, hk0, hk1⟩ := checkE_zero hk
    obtain ⟨⟨-, -, h3⟩, -, -⟩ := (rightD_iff bs ps).1 hr
    obtain ⟨m, rfl⟩ : ∃ m : Nat, k = m := ⟨k.toNat, by omega⟩
    obtain ⟨b, o, rfl, hlb, hcx, hxs⟩ := HS.out.2.2 m (blk bs m) (by unfold blk; rw [List.getElem?_eq_getElem (by omega)]; rfl)
    have hml : m < bs.length := by omega
    have HT : Hid (∀ s, readS bs ps m = s ↔ tellOn m (blk bs m) ps = s) := by
      intro s; rw [hrs.out]; exact Iff.rfl
    generalize blk bs m = z at hcx hxs HT
    clear hrs
    rw [hk, hW] at c1
    rw [hk]
    have h1 : 1 ≤ 3 := by omega
    refine callsIn_of_wp_marks Try.func15 rfl trivial ?_ rfl
    simp only [Try.ntmps15, List.size_toArray, List.length_cons, List.length_nil, Nat.reduceAdd, Nat.reduceSub, Array.replicate_succ, Array.replicate_zero, List.push_toArray, List.append_toArray, List.nil_append, List.cons_append]
    gi_wp2_with (first
      | (refine ⟨trivial, ?_⟩; gi_at_call 29; refine (callsIn_wide.2 c1).mono ?_; rintro e w1 ⟨rfl, hb⟩; rw [← hW] at hb; replace d0 := cell_below hb d0; replace d1 := cell_below hb d1; replace k0 := cell_below hb k0; replace e0 := cell_below hb e0; replace e1 := cell_below hb e1; replace f0 := frozen_below hb (by omega) f0; replace f1 := frozen_below hb (by omega) f1; have hB1 := Below.tr hB0 hb; have hs1 := hb.size; clear hb)
      | (refine ⟨trivial, ?_⟩; gi_at_call 30; refine (back_in Fence.wide _ trivial rfl _ _ _ _).mono ?_; rintro e w2 ⟨rfl, rfl⟩))
    have bN : (w1.alloc (.cells #[.slice a' ps.length c'] 23)).cell? ⟨w1.heap.size, 0, none⟩ = some (.slice a' ps.length c') := World.cell?_alloc_at _ _ _ _ rfl
    have hBW : Below w1.heap.size w1 (w1.alloc (.cells #[.slice a' ps.length c'] 23)) := (Below.refl _ _).alloc (Nat.le_refl _) _
    have hsz : (w1.alloc (.cells #[.slice a' ps.length c'] 23)).heap.size = w1.heap.size + 1 := by simp
    obtain ⟨W0, hW0⟩ : ∃ W0, w1.alloc (.cells #[.slice a' ps.length c'] 23) = W0 := ⟨_, rfl⟩
    rw [hW0] at bN hBW hsz ⊢
    have hB2 : Below w.heap.size w W0 := Below.tr hB1 hBW
    replace d0 := cell_below hBW d0; replace d1 := cell_below hBW d1; replace k0 := cell_below hBW k0; replace e0 := cell_below hBW e0; replace e1 := cell_below hBW e1; replace f0 := frozen_below hBW (by omega) f0; replace f1 := frozen_below hBW (by omega) f1
    replace hcx := cell_below hB2 hcx
    clear hW0 hBW hW c1 hk
    refine wpIn_rangeFunc_ownH rfl h1 (gf := 38) (lb := #[.pointer (some ⟨w1.heap.size, 0, none⟩)]) rfl trivial (enters_of Try.func38 (by kernel_rfl) rfl)
      (back_stops Fence.wide (3 - 1) trivial rfl (by omega) w1.heap.size c' a' ps h3 W0 (by omega) bN (HP.out.below hB2)) belowK_t (belowK_b (Nat.le_refl _)) (Below.refl _ _) (fun _ => rfl)
      (fun pre X => (∀ x ∈ pre, x.2.1 ≠ (m : Int)) ∧ Below W0.heap.size W0 X)
      (fun cc pre X => (cc = .ret ∧ ∃ ini last, pre = ini ++ [last] ∧ (∀ x ∈ ini, x.2.1 ≠ (m : Int)) ∧ last.2.1 = (m : Int) ∧ X.cell? ⟨w.heap.size + 1 + 1, 0, none⟩ = some (.string last.2.2) ∧ X.cell? ⟨w.heap.size + 1 + 1 + 1, 0, none⟩ = some (.int .i64 0)) ∧ Below w.heap.size w X)
      (OwnFrom.and (ownFrom_pure _ _) (ownFrom_below (Nat.le_refl _) (Nat.le_refl _)))
      (fun cc => OwnFrom.and (Own.from (fun s A B row hs hg hr => by obtain ⟨h1, ini, last, e1, e2, e3, e4, e5⟩ := hs; exact ⟨h1, ini, last, e1, e2, e3, cell_kept e4 hg hr, cell_kept e5 hg hr⟩) _) (ownFrom_below (Nat.le_refl _) hB2.size))
      ⟨by simp, Below.refl _ _⟩
      (fun x a'' X => ∃ Bx, X.cell? ⟨Bx, 0, none⟩ = some (.int .i64 x.2.1) ∧ X.cell? ⟨Bx, 1, none⟩ = some (.string x.2.2) ∧ a'' = { tmps := #[.agg #[.slice (some ⟨b, o, none⟩) bs.length c, .slice a' ps.length c'], .int .i64 m, .pointer (some ⟨w.heap.size, 0, none⟩), .pointer (some ⟨w.heap.size + 1, 0, none⟩), .pointer (some ⟨w.heap.size + 1 + 1, 0, none⟩), .pointer (some ⟨w.heap.size + 1 + 1 + 1, 0, none⟩), .int .i64 0, undef, .pointer (some ⟨Bx, 0, none⟩), .agg #[.slice (some ⟨b, o, none⟩) bs.length c, .slice a' ps.length c'], .int .i64 m, .int .i64 0, .int .i64 0, .bool false, undef, .pointer (some ⟨w.heap.size, 1, none⟩), .slice a' ps.length c', .func (.func 38) #[] #[.pointer (some ⟨w1.heap.size, 0, none⟩)], .int .i64 x.1, .agg #[.int .i64 x.2.1, .string x.2.2], undef, undef, undef, undef, undef, undef, undef, undef, undef, undef, undef], defers := [] })
      (fun x a'' _ X Y row hs hg hr => by obtain ⟨Bx, h1, h2, h3⟩ := hs; exact ⟨Bx, cell_kept h1 hg (fun r e => (hr r e).2), cell_kept h2 hg (fun r e => (hr r e).2), h3⟩)
      ?assign ?body ?done ?stop
    case assign =>
      rintro l pre x X K ⟨hp, hX⟩ hK
      dsimp only [backV]
      gi_wp2
      exact hK _ _ ((KeepsOthers.alloc _ _).from _) ((Below.refl _ X).alloc hX.size _) ⟨hp, hX.alloc hX.size _⟩ ⟨X.heap.size, World.cell?_alloc_at _ _ _ _ rfl, World.cell?_alloc_at _ _ _ _ rfl, rfl⟩
    case body =>
      rintro l pre x a'' X hl ⟨r, hr⟩ ⟨hp, hX⟩ ⟨Bx, x1, x2, rfl⟩ hlt
      have k0' := cell_below hX k0
      have e0' := cell_below hX e0
      have e1' := cell_below hX e1
      have f0' := frozen_below hX (by omega) f0
      have f1' := frozen_below hX (by omega) f1
      by_cases hxk : x.2.1 = (m : Int)
      · gi_wp2
        obtain ⟨z0, z1⟩ := two_set (.string x.2.2) (.int .i64 0) (by omega) e0' e1'
        refine ⟨(KeepsFrom.trans ((KeepsOthers.setCell _ _ _).from _) ((KeepsOthers.setCell _ _ _).from _)), ⟨rfl, pre, x, rfl, hp, hxk, z0, z1⟩, ?_⟩
        exact ((hB2.trans (hX.mono hB2.size)).setCell (p := ⟨w.heap.size + 1 + 1, 0, none⟩) (by show _ ≤ w.heap.size + 1 + 1; omega) _).setCell (p := ⟨w.heap.size + 1 + 1 + 1, 0, none⟩) (by show _ ≤ w.heap.size + 1 + 1 + 1; omega) _
      · gi_wp2
        exact ⟨KeepsFrom.refl _ _, Below.refl _ _, fun y hy => (List.mem_append.1 hy).elim (hp y) (fun e => by simp at e; subst e; exact hxk), hX⟩
    case done =>
      rintro D ys X hD rfl ⟨hp, hX⟩ hK
      replace d0 := cell_below hX d0
      replace hcx := cell_below hX hcx
      have k0' := cell_below hX k0
      have e0' := cell_below hX e0
      have e1' := cell_below hX e1
      have f0' := frozen_below hX (by omega) f0
      have f1' := frozen_below hX (by omega) f1
      gi_wp2
      have hK' := (KeepsOthers.setCell (X.setCell ⟨w.heap.size + 1 + 1, 0, none⟩ (.string z)) ⟨w.heap.size + 1 + 1 + 1, 0, none⟩ (.int .i64 0)).same D _ ((KeepsOthers.setCell X ⟨w.heap.size + 1 + 1, 0, none⟩ (.string z)).same D _ hK rfl) rfl
      refine ⟨by simp, .inl ⟨_, _, rfl, run_takeDeferred hK', ?_⟩⟩
      obtain ⟨z0, z1⟩ := two_set (.string z) (.int .i64 0) (by omega) e0' e1'
      have z0' := cell_kept z0 (grownBy_putObj' _ D (.deferred none)) (fun r e => by cases e; exact ⟨_, hK', rfl⟩)
      have z1' := cell_kept z1 (grownBy_putObj' _ D (.deferred none)) (fun r e => by cases e; exact ⟨_, hK', rfl⟩)
      refine ⟨.tuple #[.string z, .int .i64 0], ?_, by rw [(HT.out z).2 (tell_all z hp)], ?_⟩
      · simp [results, Try.results15, go_sem, z0', z1']
      · exact (((hB2.trans (hX.mono hB2.size)).setCell (p := ⟨w.heap.size + 1 + 1, 0, none⟩) (by show _ ≤ w.heap.size + 1 + 1; omega) _).setCell (p := ⟨w.heap.size + 1 + 1 + 1, 0, none⟩) (by show _ ≤ w.heap.size + 1 + 1 + 1; omega) _).trans (belowK_b (w := w) (Nat.le_refl _) _ D _ _ (by omega) hK' rfl rfl)
    case stop =>
      rintro D cc pre X hD ⟨i, hi, rfl⟩ ⟨⟨rfl, ini, last, y1, y2, y3, y4, y5⟩, hX⟩ hK
      gi_wp2
      refine ⟨by simp, .inl ⟨_, _, rfl, run_takeDeferred hK, ?_⟩⟩
      have z0' := cell_kept y4 (grownBy_putObj' _ D (.deferred none)) (fun r e => by cases e; exact ⟨_, hK, rfl⟩)
      have z1' := cell_kept y5 (grownBy_putObj' _ D (.deferred none)) (fun r e => by cases e; exact ⟨_, hK, rfl⟩)
      refine ⟨.tuple #[.string last.2.2, .int .i64 0], ?_, by rw [(HT.out last.2.2).2 (tell_last z hi y1 y2 y3)], ?_⟩
      · simp [results, Try.results15, go_sem, z0', z1']
      · exact hX.trans (belowK_b (w := w) (Nat.le_refl _) _ D _ _ (by omega) hK rfl rfl)
  · rw [readS_bad hk]
    rw [hW] at c1
    generalize checkE bs ps k = q at hk c1 ⊢
    refine callsIn_of_wp_marks Try.func15 rfl trivial ?_ rfl
    simp only [Try.ntmps15, List.size_toArray, List.length_cons, List.length_nil, Nat.reduceAdd, Nat.reduceSub, Array.replicate_succ, Array.replicate_zero, List.push_toArray, List.append_toArray, List.nil_append, List.cons_append]
    gi_wp2_with (refine ⟨trivial, ?_⟩; gi_at_call 29; refine (callsIn_wide.2 c1).mono ?_; rintro e w1 ⟨rfl, hb⟩; rw [← hW] at hb; replace e0 := cell_below hb e0; replace e1 := cell_below hb e1; replace f0 := frozen_below hb (by omega) f0; replace f1 := frozen_below hb (by omega) f1; have hB1 := Below.tr hB0 hb; clear hb)
    obtain ⟨z0, z1⟩ := two_set (.string ⟨#[]⟩) (.int .i64 q) (by omega) e0 e1
    refine ⟨.tuple #[.string ⟨#[]⟩, .int .i64 q], ?_, rfl, ?_⟩
    · simp [results, Try.results15, go_sem, z0, z1]
    · exact (hB1.setCell (p := ⟨w.heap.size + 1 + 1, 0, none⟩) (by show _ ≤ w.heap.size + 1 + 1; omega) _).setCell (p := ⟨w.heap.size + 1 + 1 + 1, 0, none⟩) (by show _ ≤ w.heap.size + 1 + 1 + 1; omega) _

end Go.Proofs.Ytogadbckiaghcaa

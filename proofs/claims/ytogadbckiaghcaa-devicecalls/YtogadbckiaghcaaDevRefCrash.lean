/-
  The document's own Crash.
-/
import Derived.Test.YtogadbckiaghcaaDevCrash
import Derived.Test.YtogadbckiaghcaaDevRefBytes
namespace Go.Proofs.Ytogadbckiaghcaa
open Go.RowKit Plain Anylast
set_option linter.unusedVariables false

theorem Kept.grown {g : Nat} {W wr w' : World} {row : Option Nat} (h : Kept g W wr) (hg : wr.grownBy w' row) (hr : ∀ k, row = some k → W.heap.size ≤ k) : Kept g W w' :=
  ⟨Nat.le_trans h.1 hg.size, fun k hk hn => by rw [hg.block k (Nat.lt_of_lt_of_le hk h.1) (fun he => by have := hr k he.symm; omega)]; exact h.2 k hk hn⟩

theorem Kept.alloc {g : Nat} {W wr : World} (h : Kept g W wr) (o : Obj) : Kept g W (wr.alloc o) := h.below ((Below.refl _ _).alloc (Nat.le_refl _) _)

theorem grown_cell {w w' : World} {row : Option Nat} {b o : Nat} {v : Value} (hg : w.grownBy w' row) (hr : ∀ k, row = some k → b < k) (h : w.cell? ⟨b, o, none⟩ = some v) : w'.cell? ⟨b, o, none⟩ = some v := by
  rw [World.cell?_of_block (w := w) (hg.block b (cell_lt h) (fun he => by have := hr b he.symm; omega))]; exact h

theorem grown_frozen {w w' : World} {row : Option Nat} {b o : Nat} (hg : w.grownBy w' row) (hl : b < w.heap.size) (hr : ∀ k, row = some k → b < k) (h : w.frozen? ⟨b, o, none⟩ = false) : w'.frozen? ⟨b, o, none⟩ = false := by
  rw [World.frozen?_of_block (w := w) (hg.block b hl (fun he => by have := hr b he.symm; omega))]; exact h

/-- Three boxes. -/
theorem three_boxes {w W : World} {v0 v1 u0 u1 x0 x1 : Value} {t : TypeId} (hW : W = ((w.alloc (.cells #[v0, v1] t)).alloc (.cells #[u0, u1] t)).alloc (.cells #[x0, x1] t)) :
    Below w.heap.size w W ∧ W.heap.size = w.heap.size + 3 ∧ (W.cell? ⟨w.heap.size, 0, none⟩ = some v0 ∧ W.cell? ⟨w.heap.size, 1, none⟩ = some v1) ∧ (W.cell? ⟨w.heap.size + 1, 0, none⟩ = some u0 ∧ W.cell? ⟨w.heap.size + 1, 1, none⟩ = some u1) ∧
      (W.frozen? ⟨w.heap.size + 1, 0, none⟩ = false ∧ W.frozen? ⟨w.heap.size + 1, 1, none⟩ = false) ∧ (W.cell? ⟨w.heap.size + 2, 0, none⟩ = some x0 ∧ W.cell? ⟨w.heap.size + 2, 1, none⟩ = some x1) ∧ W.frozen? ⟨w.heap.size + 2, 0, none⟩ = false ∧ W.frozen? ⟨w.heap.size + 2, 1, none⟩ = false := by
  obtain ⟨V, hV⟩ : ∃ V, V = (w.alloc (.cells #[v0, v1] t)).alloc (.cells #[u0, u1] t) := ⟨_, rfl⟩
  obtain ⟨b, s, ⟨c0, c1⟩, ⟨c2, c3⟩, g0, g1⟩ := two_boxes hV
  rw [← hV] at hW
  subst hW
  refine ⟨b.alloc (by omega) _, by simp; omega, ⟨Lib.cell?_alloc_some _ c0, Lib.cell?_alloc_some _ c1⟩, ⟨Lib.cell?_alloc_some _ c2, Lib.cell?_alloc_some _ c3⟩, ⟨frozen_alloc (by omega) g0 _, frozen_alloc (by omega) g1 _⟩, ⟨?_, ?_⟩, ?_, ?_⟩
  · exact World.cell?_alloc_at _ _ _ _ (by omega)
  · exact World.cell?_alloc_at _ _ _ _ (by omega)
  · exact frozen_new _ _ _ _ _ (by omega)
  · exact frozen_new _ _ _ _ _ (by omega)

theorem cell_set1 {w : World} {h : Nat} {v u : Value} (hc : w.cell? ⟨h, 1, none⟩ = some v) : (w.setCell ⟨h, 0, none⟩ u).cell? ⟨h, 1, none⟩ = some v := by
  rw [World.cell?_setCell_other _ _ _ _ (fun hh => by cases hh)]; exact hc

theorem own_set {w : World} {B : Nat} {e : TypeId} {g n cap h i m : Nat} {xs : List Value} {u : Value} (hr : w.ownsRow B e m (.slice (some ⟨g, 0, none⟩) n cap) n xs) (hh : h < B) : (w.setCell ⟨h, i, none⟩ u).ownsRow B e m (.slice (some ⟨g, 0, none⟩) n cap) n xs :=
  ownsRow_setCell_below hr (a := ⟨h, i, none⟩) hh u

/-- The masks, or all sectors. -/
def maskOf (all : Bool) (ms : List Int) (i : Nat) : Int := if all = true then 255 else maskAt ms i

/-- The first so many texts, as cells. -/
def strsL (bs : List ByteArray) (j : Nat) : List Value := (bs.take j).map Value.string

/-- What the operations of the document's own line yield. -/
def refV (g n cap h h2 k : Nat) (z s : ByteArray) (q : Int) (y : ByteArray) : Nat → Value
  | 0 => .pointer (some ⟨h, 0, none⟩)
  | 1 => .slice (some ⟨g, 0, none⟩) n cap
  | 2 => .pointer (some ⟨h2, 0, none⟩)
  | 3 => .int .i64 k
  | 4 => .pointer (some ⟨h, 0, none⟩)
  | 5 => .slice (some ⟨g, 0, none⟩) n cap
  | 6 => .pointer (some ⟨h2, 0, none⟩)
  | 7 => .int .i64 k
  | 8 => .pointer (some ⟨g, k, none⟩)
  | 9 => .string z
  | 10 => .pointer (some ⟨h2, 1, none⟩)
  | 11 => .string s
  | 12 => .int .i64 q
  | 13 => .string y
  | 14 => .pointer (some ⟨g, k, none⟩)
  | _ => undef

set_option maxHeartbeats 16000000 in
theorem refCrash_any (a a' am : Option Addr) (c c' cm' : Nat) (bs : List ByteArray) (ps : List (Int × ByteArray)) (all : Bool) (ms : List Int) (w : World) (hS : IsS w a c bs) (hP : IsP w a' c' ps) (hI : IsI w am cm' ms) (hr : rightD bs ps = true) :
    Calls Try.prog 18 #[.agg #[.slice a bs.length c, .slice a' ps.length c'], .bool all, .slice am ms.length cm'] w fun e w' => ∃ b d, e = .returned (.agg #[.slice b (crashL (maskOf all ms) bs ps).length d, .slice none 0 0]) ∧ IsS w' b d (crashL (maskOf all ms) bs ps) ∧ Below w.heap.size w w' := by
  obtain ⟨M, hM⟩ : ∃ M, M = maskOf all ms := ⟨_, rfl⟩
  have HM : Hid (M = maskOf all ms) := hM
  rw [← hM]
  clear hM
  obtain ⟨i0, hi, hz0, hz1, hz2⟩ := info_parts Try.info9
  obtain ⟨W, hW⟩ : ∃ W, W = ((w.alloc (.cells #[.slice a bs.length c, .slice a' ps.length c'] 25)).alloc (.cells #[.slice none 0 0, .slice none 0 0] 25)).alloc (.cells #[.slice none 0 0, .slice none 0 0] 25) := ⟨_, rfl⟩
  obtain ⟨hB0, hWs', ⟨d0, d1⟩, ⟨e0, e1⟩, ⟨f0, f1⟩, ⟨x0, x1⟩, y0, y1⟩ := three_boxes hW
  obtain ⟨B, hBW, hBw⟩ : ∃ B, B = W.heap.size ∧ w.heap.size + 2 < B := ⟨_, rfl, by omega⟩
  have HBW : Hid (B = W.heap.size) := hBW
  have hWs : Hid (W.heap.size = w.heap.size + 3) := hWs'
  have hm6 : ms.length ≤ 9223372036854775807 := Nat.le_trans hI.1 hI.2.1
  obtain ⟨⟨h1, h2, h3⟩, hbok, hpw⟩ := (rightD_iff bs ps).1 hr
  have HP : Hid (IsP w a' c' ps) := hP
  have HS : Hid (IsS w a c bs) := hS
  have HI : Hid (IsI w am cm' ms) := hI
  have HW : Hid (∀ p ∈ ps, okW bs.length p = true) := hpw
  have HZ : Hid (∀ j, ∀ x ∈ crashN M bs ps j, x.size ≤ maxLen) := fun j => flush_sizes hr _ _
  have xa : Hid (crashL M bs ps = crashN M bs ps ps.length) := crash_all _
  clear hP hS hpw hI hbok hr hBW hWs'
  go_enter Try.func18, Try.ntmps18
  go_wp2
  rw [← hW]
  clear hW
  go_loopw [17] (fun v wr => ∃ (j : Nat) (u : Value), j ≤ bs.length ∧ v = .int .i64 j ∧ wr.ownsRow B 9 1 u j (strsL bs j) ∧ wr.cell? ⟨w.heap.size + 2, 0, none⟩ = some u ∧ wr.cell? ⟨w.heap.size + 2, 1, none⟩ = some (.slice none 0 0) ∧
      wr.frozen? ⟨w.heap.size + 2, 0, none⟩ = false ∧ wr.frozen? ⟨w.heap.size + 2, 1, none⟩ = false ∧ Kept (w.heap.size + 2) W wr ∧ Below w.heap.size w wr) (fun v _ => bs.length - (intOf v).toNat)
  case atStart => exact ⟨0, .slice none 0 0, by omega, rfl, ⟨rfl, .inl ⟨rfl, rfl⟩⟩, x0, x1, y0, y1, Kept.refl _ _, hB0⟩
  case round =>
    clear x0 x1 y0 y1
    obtain ⟨j, u, hj, rfl, hown, q0, q1, g0, g1, hkp, hbel⟩ := hrel
    have hWr : B ≤ wr.heap.size := by rw [HBW.out]; exact hkp.1
    by_cases hlt : j < bs.length
    · obtain ⟨x, hx⟩ : ∃ x, bs[j]? = some x := ⟨_, List.getElem?_eq_getElem hlt⟩
      obtain ⟨b, o, rfl, hlb, hc, hxs⟩ := (HS.out.below hB0).2.2 j x hx
      have hbw : b < w.heap.size := by
        obtain ⟨b', o', he, hl, _⟩ := HS.out.2.2 j x hx
        cases he
        exact hl
      replace hc := hkp.cell (by show b ≠ w.heap.size + 2; omega) hc
      have hlt' : (j : Int) < bs.length := by omega
      have hnx : Hid (strsL bs (j + 1) = strsL bs j ++ [.string x]) := by
        show _ = _
        unfold strsL
        rw [List.take_add_one, hx, List.map_append]; rfl
      have hrow : ∀ k, u.ownBlock = some k → w.heap.size + 2 < k := fun k hk => by have := (hown.lt k hk).1; omega
      have hrow2 : ∀ k, u.ownBlock = some k → B ≤ k := fun k hk => (hown.lt k hk).1
      have q0a := cell_alloc q0
      have hwl : w.heap.size + 2 < wr.heap.size := by omega
      go_wp2_with (at_builtin; refine wpList_append_own _ rfl _ _ 22 rfl B 9 i0 (.string ⟨#[]⟩) 1 16 Try.underlying22 hi hz0 hz1 hz2 rfl (by decide) _ _ _ rfl (hown.alloc _) ⟨wr.heap.size, 0, none⟩ 1 1 [.string x] rfl rfl ?c1 ?c2 ?c3 ?c4 ?c5 ?_)
      case c1 =>
        intro j u hj
        match j, hj with
        | 0, hj => simp at hj; subst hj; simp [Addr.add]
      case c2 => intro u hu; simp at hu; subst hu; rfl
      case c3 => unfold maxLen; omega
      case c4 => omega
      case c5 => simp; omega
      · intro v' w1 hown' hgrow _
        have R : w1.ownsRow B 9 1 v' (j + 1) (strsL bs (j + 1)) := by rw [hnx.out]; exact hown'
        obtain ⟨g, cap, rfl, -, -⟩ := R.form (by omega)
        have HR : Hid (w1.ownsRow B 9 1 (.slice (some ⟨g, 0, none⟩) (j + 1) cap) (j + 1) (strsL bs (j + 1))) := R
        have hgB : B ≤ g := (R.lt g rfl).1
        have r0 := grown_cell hgrow hrow (cell_alloc q0 _)
        have r1 := grown_cell hgrow hrow (cell_alloc q1 _)
        have t0 := grown_frozen hgrow (by simp; omega) hrow (frozen_alloc hwl g0 _)
        have t1 := grown_frozen hgrow (by simp; omega) hrow (frozen_alloc hwl g1 _)
        have hk' : Kept (w.heap.size + 2) W w1 := (hkp.alloc _).grown hgrow (fun k hk => by rw [← HBW.out]; exact hrow2 k hk)
        have hb' : Below w.heap.size w w1 := (hbel.alloc (by omega) _).grown hgrow (by simp; omega) (fun k hk => by have := hrow2 k hk; omega)
        clear hown' hgrow hown R q0 q1 g0 g1 q0a hkp hbel hrow hrow2
        go_wp2
        go_roundw
        case rel =>
          refine ⟨j + 1, _, by omega, by go_num, ?_, World.cell?_setCell_same _ _ _ r0, cell_set1 r1, by rw [World.frozen?_setCell]; exact t0, by rw [World.frozen?_setCell]; exact t1, hk'.set _ _, hb'.setCell (p := ⟨w.heap.size + 2, 0, none⟩) (by show w.heap.size ≤ w.heap.size + 2; omega) _⟩
          exact own_set HR.out (by omega)
        case measure => simp [intOf]; omega
    · obtain rfl : j = bs.length := by omega
      obtain ⟨_, hrr⟩ := hown
      rcases hrr with ⟨_, hn⟩ | ⟨g, cap, cur, rfl, hg, hcur, hnc, hcm, hsz, htk⟩
      · omega
      have HROW : Hid (RowS wr g cap bs) := ⟨cur, hcur, by unfold strsL at htk; rw [List.take_length] at htk; simpa using htk, by omega, hcm, by omega⟩
      replace e0 := hkp.cell (by show w.heap.size + 1 ≠ w.heap.size + 2; omega) e0
      replace e1 := hkp.cell (by show w.heap.size + 1 ≠ w.heap.size + 2; omega) e1
      replace f0 := hkp.frozen (by show w.heap.size + 1 < W.heap.size; rw [hWs.out]; omega) (by show w.heap.size + 1 ≠ w.heap.size + 2; omega) f0
      replace f1 := hkp.frozen (by show w.heap.size + 1 < W.heap.size; rw [hWs.out]; omega) (by show w.heap.size + 1 ≠ w.heap.size + 2; omega) f1
      replace d1 := hkp.cell (by show w.heap.size ≠ w.heap.size + 2; omega) d1
      obtain ⟨W2, hW2⟩ : ∃ W2, W2 = wr := ⟨_, rfl⟩
      rw [← hW2] at HROW e0 e1 f0 f1 q0 q1 g0 g1 hbel hWr
      have hd1 := d1
      have hgs : w.heap.size + 2 < g := by omega
      clear hcur htk hkp HS d0
      go_wp2
      rw [← hW2]
      clear hW2 hd1 d1
      go_loopw [31] (fun v wr => ∃ j : Nat, j ≤ ps.length ∧ v = .int .i64 j ∧ RowS wr g cap (crashN M bs ps j) ∧ Kept g W2 wr ∧ Below w.heap.size w wr) (fun v _ => ps.length - (intOf v).toNat)
      case atStart => exact ⟨0, by omega, rfl, HROW.out, Kept.refl _ _, hbel⟩
      case round =>
        have hB2 := hbel
        clear hbel
        obtain ⟨j, hj, rfl, hrow, hkp, hbel⟩ := hrel
        have HROW2 : Hid (RowS wr g cap (crashN M bs ps j)) := hrow
        clear hrow
        by_cases hlt : j < ps.length
        · obtain ⟨p, hx⟩ : ∃ x, ps[j]? = some x := ⟨_, List.getElem?_eq_getElem hlt⟩
          obtain ⟨b, o, rfl, hlb, hc1, hc2, hxs, hlo, hhi⟩ := (hkp.isP HP.out hB2 (by omega)).2.2 j p hx
          have hlt' : (j : Int) < ps.length := by omega
          obtain ⟨⟨hp0, hp1⟩, -⟩ := (okW_iff _ _).1 (HW.out p (List.mem_of_getElem? hx))
          obtain ⟨k, hk⟩ : ∃ k : Nat, p.1 = k := ⟨p.1.toNat, by omega⟩
          have hkl : k < (crashN M bs ps j).length := by rw [crashN_length]; omega
          obtain ⟨hrc, hrf⟩ := HROW2.out.cell (blk_get hkl)
          have hzs : (blk (crashN M bs ps j) k).size ≤ maxLen := HZ.out j _ (blk_mem hkl)
          obtain ⟨q, hqm⟩ : ∃ q, M j = q := ⟨_, rfl⟩
          have hqm2 : maskOf all ms j = q := by rw [← HM.out]; exact hqm
          obtain ⟨z, hz⟩ : ∃ z, z = blk (crashN M bs ps j) k := ⟨_, rfl⟩
          obtain ⟨y, hy⟩ : ∃ y, y = mixS z p.2 q := ⟨_, rfl⟩
          have hnx : Hid (∀ V, RowS V g cap (crashN M bs ps j) → RowS (V.setCell ⟨g, k, none⟩ (.string y)) g cap (crashN M bs ps (j + 1))) := by
            intro V hV
            rw [crashN_succ _ _ hx, hk, hqm]
            show RowS _ _ _ ((crashN M bs ps j).set k (mixS (blk (crashN M bs ps j) k) p.2 q))
            rw [← hz, ← hy]
            exact hV.set hkl y
          have cm : ∀ V, Calls Try.prog 23 #[.string z, .string p.2, .int .i64 q] V fun e w' => e = .returned (.string y) ∧ Below V.heap.size V w' := by
            intro V
            rw [hy]
            exact refMix_any z p.2 q V (by rw [hz]; exact hzs) hxs
          have hk1 : (k : Int) < bs.length := by omega
          rw [hk] at hc1
          rw [← hz] at hrc
          obtain ⟨V, hV⟩ : ∃ V, V = wr.alloc (.cells #[.int .i64 k, .string p.2] 50) := ⟨_, rfl⟩
          have hVB : Below wr.heap.size wr V := by rw [hV]; exact (Below.refl _ _).alloc (Nat.le_refl _) _
          have v0 : V.cell? ⟨wr.heap.size, 0, none⟩ = some (.int .i64 k) := by rw [hV]; exact World.cell?_alloc_at _ _ _ _ rfl
          have v1 : V.cell? ⟨wr.heap.size, 1, none⟩ = some (.string p.2) := by rw [hV]; exact World.cell?_alloc_at _ _ _ _ rfl
          have v2 := cell_below hVB hrc
          have v3 := cell_below hVB (hkp.cell (by show w.heap.size + 2 ≠ g; omega) q0)
          have v4 := frozen_below hVB HROW2.out.lt hrf
          have hVw : Below w.heap.size w V := Below.tr hbel hVB
          have hVk : Kept g W2 V := hkp.below hVB
          have HROW3 : Hid (RowS V g cap (crashN M bs ps j)) := HROW2.out.below hVB
          by_cases hlm : j < ms.length
          · obtain ⟨q', hq⟩ : ∃ x, ms[j]? = some x := ⟨_, List.getElem?_eq_getElem hlm⟩
            obtain ⟨b2, o2, rfl, hlb2, hc3⟩ := (hkp.isI HI.out hB2 (by omega)).2.2 j q' hq
            have hc3a := cell_alloc hc3
            have hlm' : (j : Int) < ms.length := by omega
            cases all with
            | true =>
              obtain rfl : q = 255 := hqm2.symm
              clear hx hq HROW2 HROW hp0 hp1 hzs hz hy hqm hqm2 HM hrc hrf hkp hbel
              go_wp2
              rw [← hV]
              clear hV hVB
              refine region_vals (by kernel_rfl) 15 (refV g bs.length cap (w.heap.size + 2) wr.heap.size k z p.2 255 y)
                (fun X => (X.cell? ⟨w.heap.size + 2, 0, none⟩ = some (.slice (some ⟨g, 0, none⟩) bs.length cap) ∧ X.cell? ⟨wr.heap.size, 0, none⟩ = some (.int .i64 k) ∧ X.cell? ⟨wr.heap.size, 1, none⟩ = some (.string p.2) ∧ X.cell? ⟨g, k, none⟩ = some (.string z) ∧ X.frozen? ⟨g, k, none⟩ = false) ∧ Below w.heap.size w X ∧ RowS X g cap (crashN M bs ps j) ∧ Kept g W2 X)
                (fun X => Below w.heap.size w X ∧ RowS X g cap (crashN M bs ps (j + 1)) ∧ Kept g W2 X) (by kernel_rfl) (by kernel_rfl) ⟨⟨v3, v0, v1, v2, v4⟩, hVw.drew, RowS.below HROW3.out (Below.refl _ _).drew, Kept.below hVk (Below.refl _ _).drew⟩ ?step1 16 rfl ?done1
              case step1 =>
                intro i o ho a' X hS hdf hsz hdep hsame
                obtain ⟨⟨s0, s1, s2, s3, s4⟩, s5, s6, s7⟩ := id hS
                match i, ho with
                | 0, ho =>
                  cases ho
                  have h7 := hsame 7 rfl
                  exact val_op rfl (wanted_free rfl) (by clear hdep hsame hsz hdf; simp only [refV]; go_simp) rfl hS
                | 1, ho =>
                  cases ho
                  have h45 := hdep 0 _ 45 rfl rfl rfl
                  simp only [refV] at h45
                  exact val_op rfl (wanted_free rfl) (by clear hdep hsame hsz hdf; simp only [refV]; go_simp) rfl hS
                | 2, ho =>
                  cases ho
                  have h11 := hsame 11 rfl
                  exact val_op rfl (wanted_free rfl) (by clear hdep hsame hsz hdf; simp only [refV]; go_simp) rfl hS
                | 3, ho =>
                  cases ho
                  have h47 := hdep 2 _ 47 rfl rfl rfl
                  simp only [refV] at h47
                  exact val_op rfl (wanted_free rfl) (by clear hdep hsame hsz hdf; simp only [refV]; go_simp) rfl hS
                | 4, ho =>
                  cases ho
                  have h7 := hsame 7 rfl
                  exact val_op rfl (wanted_free rfl) (by clear hdep hsame hsz hdf; simp only [refV]; go_simp) rfl hS
                | 5, ho =>
                  cases ho
                  have h49 := hdep 4 _ 49 rfl rfl rfl
                  simp only [refV] at h49
                  exact val_op rfl (wanted_free rfl) (by clear hdep hsame hsz hdf; simp only [refV]; go_simp) rfl hS
                | 6, ho =>
                  cases ho
                  have h11 := hsame 11 rfl
                  exact val_op rfl (wanted_free rfl) (by clear hdep hsame hsz hdf; simp only [refV]; go_simp) rfl hS
                | 7, ho =>
                  cases ho
                  have h51 := hdep 6 _ 51 rfl rfl rfl
                  simp only [refV] at h51
                  exact val_op rfl (wanted_free rfl) (by clear hdep hsame hsz hdf; simp only [refV]; go_simp) rfl hS
                | 8, ho =>
                  cases ho
                  have h50 := hdep 5 _ 50 rfl rfl rfl
                  have h52 := hdep 7 _ 52 rfl rfl rfl
                  simp only [refV] at h50 h52
                  exact val_op rfl (wanted_free rfl) (by clear hdep hsame hsz hdf; simp only [refV]; go_simp) rfl hS
                | 9, ho =>
                  cases ho
                  have h53 := hdep 8 _ 53 rfl rfl rfl
                  simp only [refV] at h53
                  exact val_op rfl (wanted_free rfl) (by clear hdep hsame hsz hdf; simp only [refV]; go_simp) rfl hS
                | 10, ho =>
                  cases ho
                  have h11 := hsame 11 rfl
                  exact val_op rfl (wanted_free rfl) (by clear hdep hsame hsz hdf; simp only [refV]; go_simp) rfl hS
                | 11, ho =>
                  cases ho
                  have h55 := hdep 10 _ 55 rfl rfl rfl
                  simp only [refV] at h55
                  exact val_op rfl (wanted_free rfl) (by clear hdep hsame hsz hdf; simp only [refV]; go_simp) rfl hS
                | 12, ho =>
                  cases ho
                  have h12 := hsame 12 rfl
                  exact val_op rfl (wanted_free rfl) (by clear hdep hsame hsz hdf; simp only [refV]; go_simp) rfl hS
                | 13, ho =>
                  cases ho
                  have h54 := hdep 9 _ 54 rfl rfl rfl
                  have h56 := hdep 11 _ 56 rfl rfl rfl
                  have h57 := hdep 12 _ 57 rfl rfl rfl
                  simp only [refV] at h54 h56 h57
                  exact val_call rfl (wanted_free rfl) (by clear hdep hsame hsz hdf; go_simp) ((cm _).mono fun e w'' ⟨he, hb⟩ => ⟨he, ⟨cell_below hb s0, cell_below hb s1, cell_below hb s2, cell_below hb s3, frozen_below hb s6.lt s4⟩, Below.tr s5 hb, s6.below hb, s7.below hb⟩)
                | 14, ho =>
                  cases ho
                  have h46 := hdep 1 _ 46 rfl rfl rfl
                  have h48 := hdep 3 _ 48 rfl rfl rfl
                  simp only [refV] at h46 h48
                  exact val_op rfl (wanted_free rfl) (by clear hdep hsame hsz hdf; simp only [refV]; go_simp) rfl hS
                | 15, ho =>
                  cases ho
                  have h59 := hdep 14 _ 59 rfl rfl rfl
                  have h58 := hdep 13 _ 58 rfl rfl rfl
                  simp only [refV] at h59 h58
                  exact val_skip (w' := X.setCell ⟨g, k, none⟩ (.string y)) rfl (wanted_free rfl) rfl (by clear hdep hsame hsz hdf; go_simp) ⟨s5.setCell (p := ⟨g, k, none⟩) (by show _ ≤ g; omega) _, hnx.out _ s6, s7.set _ _⟩
                | n + 16, ho => simp at ho
              case done1 =>
                rintro X ⟨s5, s6, s7⟩
                simp [filledN, refV]
                go_wp2
                go_roundw
                case rel => exact ⟨j + 1, by omega, by go_num, s6, s7, s5⟩
                case measure => simp [intOf]; omega
            | false =>
              obtain rfl : q = q' := by rw [← hqm2]; show maskAt ms j = q'; unfold maskAt; rw [hq]; rfl
              clear hx hq HROW2 HROW hp0 hp1 hzs hz hy hqm hqm2 HM hrc hrf hkp hbel
              go_wp2
              rw [← hV]
              clear hV hVB
              refine region_vals (by kernel_rfl) 15 (refV g bs.length cap (w.heap.size + 2) wr.heap.size k z p.2 q y)
                (fun X => (X.cell? ⟨w.heap.size + 2, 0, none⟩ = some (.slice (some ⟨g, 0, none⟩) bs.length cap) ∧ X.cell? ⟨wr.heap.size, 0, none⟩ = some (.int .i64 k) ∧ X.cell? ⟨wr.heap.size, 1, none⟩ = some (.string p.2) ∧ X.cell? ⟨g, k, none⟩ = some (.string z) ∧ X.frozen? ⟨g, k, none⟩ = false) ∧ Below w.heap.size w X ∧ RowS X g cap (crashN M bs ps j) ∧ Kept g W2 X)
                (fun X => Below w.heap.size w X ∧ RowS X g cap (crashN M bs ps (j + 1)) ∧ Kept g W2 X) (by kernel_rfl) (by kernel_rfl) ⟨⟨v3, v0, v1, v2, v4⟩, hVw.drew, RowS.below HROW3.out (Below.refl _ _).drew, Kept.below hVk (Below.refl _ _).drew⟩ ?step2 16 rfl ?done2
              case step2 =>
                intro i o ho a' X hS hdf hsz hdep hsame
                obtain ⟨⟨s0, s1, s2, s3, s4⟩, s5, s6, s7⟩ := id hS
                match i, ho with
                | 0, ho =>
                  cases ho
                  have h7 := hsame 7 rfl
                  exact val_op rfl (wanted_free rfl) (by clear hdep hsame hsz hdf; simp only [refV]; go_simp) rfl hS
                | 1, ho =>
                  cases ho
                  have h45 := hdep 0 _ 45 rfl rfl rfl
                  simp only [refV] at h45
                  exact val_op rfl (wanted_free rfl) (by clear hdep hsame hsz hdf; simp only [refV]; go_simp) rfl hS
                | 2, ho =>
                  cases ho
                  have h11 := hsame 11 rfl
                  exact val_op rfl (wanted_free rfl) (by clear hdep hsame hsz hdf; simp only [refV]; go_simp) rfl hS
                | 3, ho =>
                  cases ho
                  have h47 := hdep 2 _ 47 rfl rfl rfl
                  simp only [refV] at h47
                  exact val_op rfl (wanted_free rfl) (by clear hdep hsame hsz hdf; simp only [refV]; go_simp) rfl hS
                | 4, ho =>
                  cases ho
                  have h7 := hsame 7 rfl
                  exact val_op rfl (wanted_free rfl) (by clear hdep hsame hsz hdf; simp only [refV]; go_simp) rfl hS
                | 5, ho =>
                  cases ho
                  have h49 := hdep 4 _ 49 rfl rfl rfl
                  simp only [refV] at h49
                  exact val_op rfl (wanted_free rfl) (by clear hdep hsame hsz hdf; simp only [refV]; go_simp) rfl hS
                | 6, ho =>
                  cases ho
                  have h11 := hsame 11 rfl
                  exact val_op rfl (wanted_free rfl) (by clear hdep hsame hsz hdf; simp only [refV]; go_simp) rfl hS
                | 7, ho =>
                  cases ho
                  have h51 := hdep 6 _ 51 rfl rfl rfl
                  simp only [refV] at h51
                  exact val_op rfl (wanted_free rfl) (by clear hdep hsame hsz hdf; simp only [refV]; go_simp) rfl hS
                | 8, ho =>
                  cases ho
                  have h50 := hdep 5 _ 50 rfl rfl rfl
                  have h52 := hdep 7 _ 52 rfl rfl rfl
                  simp only [refV] at h50 h52
                  exact val_op rfl (wanted_free rfl) (by clear hdep hsame hsz hdf; simp only [refV]; go_simp) rfl hS
                | 9, ho =>
                  cases ho
                  have h53 := hdep 8 _ 53 rfl rfl rfl
                  simp only [refV] at h53
                  exact val_op rfl (wanted_free rfl) (by clear hdep hsame hsz hdf; simp only [refV]; go_simp) rfl hS
                | 10, ho =>
                  cases ho
                  have h11 := hsame 11 rfl
                  exact val_op rfl (wanted_free rfl) (by clear hdep hsame hsz hdf; simp only [refV]; go_simp) rfl hS
                | 11, ho =>
                  cases ho
                  have h55 := hdep 10 _ 55 rfl rfl rfl
                  simp only [refV] at h55
                  exact val_op rfl (wanted_free rfl) (by clear hdep hsame hsz hdf; simp only [refV]; go_simp) rfl hS
                | 12, ho =>
                  cases ho
                  have h12 := hsame 12 rfl
                  exact val_op rfl (wanted_free rfl) (by clear hdep hsame hsz hdf; simp only [refV]; go_simp) rfl hS
                | 13, ho =>
                  cases ho
                  have h54 := hdep 9 _ 54 rfl rfl rfl
                  have h56 := hdep 11 _ 56 rfl rfl rfl
                  have h57 := hdep 12 _ 57 rfl rfl rfl
                  simp only [refV] at h54 h56 h57
                  exact val_call rfl (wanted_free rfl) (by clear hdep hsame hsz hdf; go_simp) ((cm _).mono fun e w'' ⟨he, hb⟩ => ⟨he, ⟨cell_below hb s0, cell_below hb s1, cell_below hb s2, cell_below hb s3, frozen_below hb s6.lt s4⟩, Below.tr s5 hb, s6.below hb, s7.below hb⟩)
                | 14, ho =>
                  cases ho
                  have h46 := hdep 1 _ 46 rfl rfl rfl
                  have h48 := hdep 3 _ 48 rfl rfl rfl
                  simp only [refV] at h46 h48
                  exact val_op rfl (wanted_free rfl) (by clear hdep hsame hsz hdf; simp only [refV]; go_simp) rfl hS
                | 15, ho =>
                  cases ho
                  have h59 := hdep 14 _ 59 rfl rfl rfl
                  have h58 := hdep 13 _ 58 rfl rfl rfl
                  simp only [refV] at h59 h58
                  exact val_skip (w' := X.setCell ⟨g, k, none⟩ (.string y)) rfl (wanted_free rfl) rfl (by clear hdep hsame hsz hdf; go_simp) ⟨s5.setCell (p := ⟨g, k, none⟩) (by show _ ≤ g; omega) _, hnx.out _ s6, s7.set _ _⟩
                | n + 16, ho => simp at ho
              case done2 =>
                rintro X ⟨s5, s6, s7⟩
                simp [filledN, refV]
                go_wp2
                go_roundw
                case rel => exact ⟨j + 1, by omega, by go_num, s6, s7, s5⟩
                case measure => simp [intOf]; omega
          · have hlm' : ¬ (j : Int) < ms.length := by omega
            cases all with
            | true =>
              obtain rfl : q = 255 := hqm2.symm
              clear hx HROW2 HROW hp0 hp1 hzs hz hy hqm hqm2 HM hrc hrf hkp hbel
              go_wp2
              rw [← hV]
              clear hV hVB
              refine region_vals (by kernel_rfl) 15 (refV g bs.length cap (w.heap.size + 2) wr.heap.size k z p.2 255 y)
                (fun X => (X.cell? ⟨w.heap.size + 2, 0, none⟩ = some (.slice (some ⟨g, 0, none⟩) bs.length cap) ∧ X.cell? ⟨wr.heap.size, 0, none⟩ = some (.int .i64 k) ∧ X.cell? ⟨wr.heap.size, 1, none⟩ = some (.string p.2) ∧ X.cell? ⟨g, k, none⟩ = some (.string z) ∧ X.frozen? ⟨g, k, none⟩ = false) ∧ Below w.heap.size w X ∧ RowS X g cap (crashN M bs ps j) ∧ Kept g W2 X)
                (fun X => Below w.heap.size w X ∧ RowS X g cap (crashN M bs ps (j + 1)) ∧ Kept g W2 X) (by kernel_rfl) (by kernel_rfl) ⟨⟨v3, v0, v1, v2, v4⟩, hVw.drew, RowS.below HROW3.out (Below.refl _ _).drew, Kept.below hVk (Below.refl _ _).drew⟩ ?step3 16 rfl ?done3
              case step3 =>
                intro i o ho a' X hS hdf hsz hdep hsame
                obtain ⟨⟨s0, s1, s2, s3, s4⟩, s5, s6, s7⟩ := id hS
                match i, ho with
                | 0, ho =>
                  cases ho
                  have h7 := hsame 7 rfl
                  exact val_op rfl (wanted_free rfl) (by clear hdep hsame hsz hdf; simp only [refV]; go_simp) rfl hS
                | 1, ho =>
                  cases ho
                  have h45 := hdep 0 _ 45 rfl rfl rfl
                  simp only [refV] at h45
                  exact val_op rfl (wanted_free rfl) (by clear hdep hsame hsz hdf; simp only [refV]; go_simp) rfl hS
                | 2, ho =>
                  cases ho
                  have h11 := hsame 11 rfl
                  exact val_op rfl (wanted_free rfl) (by clear hdep hsame hsz hdf; simp only [refV]; go_simp) rfl hS
                | 3, ho =>
                  cases ho
                  have h47 := hdep 2 _ 47 rfl rfl rfl
                  simp only [refV] at h47
                  exact val_op rfl (wanted_free rfl) (by clear hdep hsame hsz hdf; simp only [refV]; go_simp) rfl hS
                | 4, ho =>
                  cases ho
                  have h7 := hsame 7 rfl
                  exact val_op rfl (wanted_free rfl) (by clear hdep hsame hsz hdf; simp only [refV]; go_simp) rfl hS
                | 5, ho =>
                  cases ho
                  have h49 := hdep 4 _ 49 rfl rfl rfl
                  simp only [refV] at h49
                  exact val_op rfl (wanted_free rfl) (by clear hdep hsame hsz hdf; simp only [refV]; go_simp) rfl hS
                | 6, ho =>
                  cases ho
                  have h11 := hsame 11 rfl
                  exact val_op rfl (wanted_free rfl) (by clear hdep hsame hsz hdf; simp only [refV]; go_simp) rfl hS
                | 7, ho =>
                  cases ho
                  have h51 := hdep 6 _ 51 rfl rfl rfl
                  simp only [refV] at h51
                  exact val_op rfl (wanted_free rfl) (by clear hdep hsame hsz hdf; simp only [refV]; go_simp) rfl hS
                | 8, ho =>
                  cases ho
                  have h50 := hdep 5 _ 50 rfl rfl rfl
                  have h52 := hdep 7 _ 52 rfl rfl rfl
                  simp only [refV] at h50 h52
                  exact val_op rfl (wanted_free rfl) (by clear hdep hsame hsz hdf; simp only [refV]; go_simp) rfl hS
                | 9, ho =>
                  cases ho
                  have h53 := hdep 8 _ 53 rfl rfl rfl
                  simp only [refV] at h53
                  exact val_op rfl (wanted_free rfl) (by clear hdep hsame hsz hdf; simp only [refV]; go_simp) rfl hS
                | 10, ho =>
                  cases ho
                  have h11 := hsame 11 rfl
                  exact val_op rfl (wanted_free rfl) (by clear hdep hsame hsz hdf; simp only [refV]; go_simp) rfl hS
                | 11, ho =>
                  cases ho
                  have h55 := hdep 10 _ 55 rfl rfl rfl
                  simp only [refV] at h55
                  exact val_op rfl (wanted_free rfl) (by clear hdep hsame hsz hdf; simp only [refV]; go_simp) rfl hS
                | 12, ho =>
                  cases ho
                  have h12 := hsame 12 rfl
                  exact val_op rfl (wanted_free rfl) (by clear hdep hsame hsz hdf; simp only [refV]; go_simp) rfl hS
                | 13, ho =>
                  cases ho
                  have h54 := hdep 9 _ 54 rfl rfl rfl
                  have h56 := hdep 11 _ 56 rfl rfl rfl
                  have h57 := hdep 12 _ 57 rfl rfl rfl
                  simp only [refV] at h54 h56 h57
                  exact val_call rfl (wanted_free rfl) (by clear hdep hsame hsz hdf; go_simp) ((cm _).mono fun e w'' ⟨he, hb⟩ => ⟨he, ⟨cell_below hb s0, cell_below hb s1, cell_below hb s2, cell_below hb s3, frozen_below hb s6.lt s4⟩, Below.tr s5 hb, s6.below hb, s7.below hb⟩)
                | 14, ho =>
                  cases ho
                  have h46 := hdep 1 _ 46 rfl rfl rfl
                  have h48 := hdep 3 _ 48 rfl rfl rfl
                  simp only [refV] at h46 h48
                  exact val_op rfl (wanted_free rfl) (by clear hdep hsame hsz hdf; simp only [refV]; go_simp) rfl hS
                | 15, ho =>
                  cases ho
                  have h59 := hdep 14 _ 59 rfl rfl rfl
                  have h58 := hdep 13 _ 58 rfl rfl rfl
                  simp only [refV] at h59 h58
                  exact val_skip (w' := X.setCell ⟨g, k, none⟩ (.string y)) rfl (wanted_free rfl) rfl (by clear hdep hsame hsz hdf; go_simp) ⟨s5.setCell (p := ⟨g, k, none⟩) (by show _ ≤ g; omega) _, hnx.out _ s6, s7.set _ _⟩
                | n + 16, ho => simp at ho
              case done3 =>
                rintro X ⟨s5, s6, s7⟩
                simp [filledN, refV]
                go_wp2
                go_roundw
                case rel => exact ⟨j + 1, by omega, by go_num, s6, s7, s5⟩
                case measure => simp [intOf]; omega
            | false =>
              obtain rfl : q = 0 := by rw [← hqm2]; show maskAt ms j = 0; unfold maskAt; rw [List.getElem?_eq_none (by omega)]; rfl
              clear hx HROW2 HROW hp0 hp1 hzs hz hy hqm hqm2 HM hrc hrf hkp hbel
              go_wp2
              rw [← hV]
              clear hV hVB
              refine region_vals (by kernel_rfl) 15 (refV g bs.length cap (w.heap.size + 2) wr.heap.size k z p.2 0 y)
                (fun X => (X.cell? ⟨w.heap.size + 2, 0, none⟩ = some (.slice (some ⟨g, 0, none⟩) bs.length cap) ∧ X.cell? ⟨wr.heap.size, 0, none⟩ = some (.int .i64 k) ∧ X.cell? ⟨wr.heap.size, 1, none⟩ = some (.string p.2) ∧ X.cell? ⟨g, k, none⟩ = some (.string z) ∧ X.frozen? ⟨g, k, none⟩ = false) ∧ Below w.heap.size w X ∧ RowS X g cap (crashN M bs ps j) ∧ Kept g W2 X)
                (fun X => Below w.heap.size w X ∧ RowS X g cap (crashN M bs ps (j + 1)) ∧ Kept g W2 X) (by kernel_rfl) (by kernel_rfl) ⟨⟨v3, v0, v1, v2, v4⟩, hVw.drew, RowS.below HROW3.out (Below.refl _ _).drew, Kept.below hVk (Below.refl _ _).drew⟩ ?step4 16 rfl ?done4
              case step4 =>
                intro i o ho a' X hS hdf hsz hdep hsame
                obtain ⟨⟨s0, s1, s2, s3, s4⟩, s5, s6, s7⟩ := id hS
                match i, ho with
                | 0, ho =>
                  cases ho
                  have h7 := hsame 7 rfl
                  exact val_op rfl (wanted_free rfl) (by clear hdep hsame hsz hdf; simp only [refV]; go_simp) rfl hS
                | 1, ho =>
                  cases ho
                  have h45 := hdep 0 _ 45 rfl rfl rfl
                  simp only [refV] at h45
                  exact val_op rfl (wanted_free rfl) (by clear hdep hsame hsz hdf; simp only [refV]; go_simp) rfl hS
                | 2, ho =>
                  cases ho
                  have h11 := hsame 11 rfl
                  exact val_op rfl (wanted_free rfl) (by clear hdep hsame hsz hdf; simp only [refV]; go_simp) rfl hS
                | 3, ho =>
                  cases ho
                  have h47 := hdep 2 _ 47 rfl rfl rfl
                  simp only [refV] at h47
                  exact val_op rfl (wanted_free rfl) (by clear hdep hsame hsz hdf; simp only [refV]; go_simp) rfl hS
                | 4, ho =>
                  cases ho
                  have h7 := hsame 7 rfl
                  exact val_op rfl (wanted_free rfl) (by clear hdep hsame hsz hdf; simp only [refV]; go_simp) rfl hS
                | 5, ho =>
                  cases ho
                  have h49 := hdep 4 _ 49 rfl rfl rfl
                  simp only [refV] at h49
                  exact val_op rfl (wanted_free rfl) (by clear hdep hsame hsz hdf; simp only [refV]; go_simp) rfl hS
                | 6, ho =>
                  cases ho
                  have h11 := hsame 11 rfl
                  exact val_op rfl (wanted_free rfl) (by clear hdep hsame hsz hdf; simp only [refV]; go_simp) rfl hS
                | 7, ho =>
                  cases ho
                  have h51 := hdep 6 _ 51 rfl rfl rfl
                  simp only [refV] at h51
                  exact val_op rfl (wanted_free rfl) (by clear hdep hsame hsz hdf; simp only [refV]; go_simp) rfl hS
                | 8, ho =>
                  cases ho
                  have h50 := hdep 5 _ 50 rfl rfl rfl
                  have h52 := hdep 7 _ 52 rfl rfl rfl
                  simp only [refV] at h50 h52
                  exact val_op rfl (wanted_free rfl) (by clear hdep hsame hsz hdf; simp only [refV]; go_simp) rfl hS
                | 9, ho =>
                  cases ho
                  have h53 := hdep 8 _ 53 rfl rfl rfl
                  simp only [refV] at h53
                  exact val_op rfl (wanted_free rfl) (by clear hdep hsame hsz hdf; simp only [refV]; go_simp) rfl hS
                | 10, ho =>
                  cases ho
                  have h11 := hsame 11 rfl
                  exact val_op rfl (wanted_free rfl) (by clear hdep hsame hsz hdf; simp only [refV]; go_simp) rfl hS
                | 11, ho =>
                  cases ho
                  have h55 := hdep 10 _ 55 rfl rfl rfl
                  simp only [refV] at h55
                  exact val_op rfl (wanted_free rfl) (by clear hdep hsame hsz hdf; simp only [refV]; go_simp) rfl hS
                | 12, ho =>
                  cases ho
                  have h12 := hsame 12 rfl
                  exact val_op rfl (wanted_free rfl) (by clear hdep hsame hsz hdf; simp only [refV]; go_simp) rfl hS
                | 13, ho =>
                  cases ho
                  have h54 := hdep 9 _ 54 rfl rfl rfl
                  have h56 := hdep 11 _ 56 rfl rfl rfl
                  have h57 := hdep 12 _ 57 rfl rfl rfl
                  simp only [refV] at h54 h56 h57
                  exact val_call rfl (wanted_free rfl) (by clear hdep hsame hsz hdf; go_simp) ((cm _).mono fun e w'' ⟨he, hb⟩ => ⟨he, ⟨cell_below hb s0, cell_below hb s1, cell_below hb s2, cell_below hb s3, frozen_below hb s6.lt s4⟩, Below.tr s5 hb, s6.below hb, s7.below hb⟩)
                | 14, ho =>
                  cases ho
                  have h46 := hdep 1 _ 46 rfl rfl rfl
                  have h48 := hdep 3 _ 48 rfl rfl rfl
                  simp only [refV] at h46 h48
                  exact val_op rfl (wanted_free rfl) (by clear hdep hsame hsz hdf; simp only [refV]; go_simp) rfl hS
                | 15, ho =>
                  cases ho
                  have h59 := hdep 14 _ 59 rfl rfl rfl
                  have h58 := hdep 13 _ 58 rfl rfl rfl
                  simp only [refV] at h59 h58
                  exact val_skip (w' := X.setCell ⟨g, k, none⟩ (.string y)) rfl (wanted_free rfl) rfl (by clear hdep hsame hsz hdf; go_simp) ⟨s5.setCell (p := ⟨g, k, none⟩) (by show _ ≤ g; omega) _, hnx.out _ s6, s7.set _ _⟩
                | n + 16, ho => simp at ho
              case done4 =>
                rintro X ⟨s5, s6, s7⟩
                simp [filledN, refV]
                go_wp2
                go_roundw
                case rel => exact ⟨j + 1, by omega, by go_num, s6, s7, s5⟩
                case measure => simp [intOf]; omega
        · obtain rfl : j = ps.length := by omega
          replace e0 := hkp.cell (by show w.heap.size + 1 ≠ g; omega) e0
          replace e1 := hkp.cell (by show w.heap.size + 1 ≠ g; omega) e1
          replace f0 := hkp.frozen (by show w.heap.size + 1 < W2.heap.size; omega) (by show w.heap.size + 1 ≠ g; omega) f0
          replace f1 := hkp.frozen (by show w.heap.size + 1 < W2.heap.size; omega) (by show w.heap.size + 1 ≠ g; omega) f1
          replace q0 := hkp.cell (by show w.heap.size + 2 ≠ g; omega) q0
          replace q1 := hkp.cell (by show w.heap.size + 2 ≠ g; omega) q1
          have HE : Hid (∀ v v', IsS ((wr.setCell ⟨w.heap.size + 1, 0, none⟩ v).setCell ⟨w.heap.size + 1, 1, none⟩ v') (some ⟨g, 0, none⟩) cap (crashL M bs ps)) := by
            intro v v'
            rw [xa.out]
            exact (RowS.setOther (RowS.setOther HROW2.out (by omega)) (by omega)).isS (HZ.out _)
          have hl : (crashL M bs ps).length = bs.length := by rw [xa.out]; exact crashN_length _ _ _ _
          clear HROW HROW2 hkp HP HW HI
          go_wp2
          refine bodyPost_ret (v := .agg #[.slice (some ⟨g, 0, none⟩) bs.length cap, .slice none 0 0]) (by simp [results, Try.results18, go_sem, e0, e1]) rfl ⟨some ⟨g, 0, none⟩, cap, by rw [hl], HE.out _ _, ?_⟩
          exact (hbel.setCell (p := ⟨w.heap.size + 1, 0, none⟩) (Nat.le_succ _) _).setCell (p := ⟨w.heap.size + 1, 1, none⟩) (Nat.le_succ _) _

end Go.Proofs.Ytogadbckiaghcaa

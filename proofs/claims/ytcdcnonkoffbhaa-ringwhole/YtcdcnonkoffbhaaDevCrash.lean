/-
  Package device's Crash.
-/
import Derived.Test.YtcdcnonkoffbhaaDevFlush
import Derived.Test.YtcdcnonkoffbhaaDevOpen
import Derived.Test.YtcdcnonkoffbhaaAnylast
namespace Go.Proofs.Ytcdcnonkoffbhaa
open Go.RowKit Plain Anylast
set_option linter.unusedVariables false
set_option maxRecDepth 20000

theorem Kept.isI {g : Nat} {W wr : World} (h : Kept g W wr) {a : Option Addr} {c : Nat} {ms : List Int} {w : World} (hP : IsI w a c ms) (hW : Below w.heap.size w W) (hg : w.heap.size ≤ g) : IsI wr a c ms := by
  refine ⟨hP.1, hP.2.1, fun j p hp => ?_⟩
  obtain ⟨b, o, ha, hlt, hc⟩ := hP.2.2 j p hp
  exact ⟨b, o, ha, Nat.lt_of_lt_of_le hlt (Nat.le_trans hW.size h.1), h.cell (by show b ≠ g; omega) (cell_below hW hc)⟩

theorem cell_set {w : World} {b o g k : Nat} {v u : Value} (hn : b ≠ g) (h : w.cell? ⟨b, o, none⟩ = some v) : (w.setCell ⟨g, k, none⟩ u).cell? ⟨b, o, none⟩ = some v := by
  rw [World.cell?_setCell_other _ _ _ _ (fun hh => hn (by cases hh; rfl))]; exact h

theorem res_cells {wr : World} {h : Nat} {u0 u1 : Value} (e0 : wr.cell? ⟨h, 0, none⟩ = some u0) (e1 : wr.cell? ⟨h, 1, none⟩ = some u1) (v v' : Value) (o : Obj) :
    (((wr.setCell ⟨h, 0, none⟩ v).setCell ⟨h, 1, none⟩ v').alloc o).cell? ⟨h, 0, none⟩ = some v ∧ (((wr.setCell ⟨h, 0, none⟩ v).setCell ⟨h, 1, none⟩ v').alloc o).cell? ⟨h, 1, none⟩ = some v' := by
  refine ⟨Lib.cell?_alloc_some _ ?_, Lib.cell?_alloc_some _ ?_⟩
  · rw [World.cell?_setCell_other _ _ _ _ (fun hh => by cases hh)]
    exact World.cell?_setCell_same _ _ _ e0
  · refine World.cell?_setCell_same _ _ _ (u := u1) ?_
    rw [World.cell?_setCell_other _ _ _ _ (fun hh => by cases hh)]
    exact e1

/-- The k-th mask; 0 beyond. -/
def maskAt (ms : List Int) (i : Nat) : Int := ms[i]?.getD 0

/-- The blocks behind a crash of the first so many writes. -/
def crashN (m : Nat → Int) (bs : List ByteArray) (ps : List (Int × ByteArray)) (j : Nat) : List ByteArray := crashOn m 0 bs (ps.take j)

theorem crashN_length (m : Nat → Int) (bs : List ByteArray) (ps : List (Int × ByteArray)) (j : Nat) : (crashN m bs ps j).length = bs.length := crashOn_length _ _ _ _

theorem crashN_succ (m : Nat → Int) (bs : List ByteArray) {ps : List (Int × ByteArray)} {j : Nat} {p : Int × ByteArray} (hp : ps[j]? = some p) :
    crashN m bs ps (j + 1) = (crashN m bs ps j).set p.1.toNat (mixS (blk (crashN m bs ps j) p.1.toNat) p.2 (m j)) := by
  have hj := (List.getElem?_eq_some_iff.1 hp).1
  unfold crashN
  rw [List.take_add_one, hp]
  show crashOn _ 0 bs (ps.take j ++ [p]) = _
  rw [crashOn_snoc, List.length_take, Nat.min_eq_left (by omega), Nat.zero_add]

theorem crashOn_append (m : Nat → Int) (i : Nat) (bs : List ByteArray) (ps qs : List (Int × ByteArray)) : crashOn m i bs (ps ++ qs) = crashOn m (i + ps.length) (crashOn m i bs ps) qs := by
  induction ps generalizing i bs with
  | nil => rfl
  | cons p ps ih =>
    show crashOn m (i + 1) _ (ps ++ qs) = _
    rw [ih]
    show crashOn m (i + 1 + ps.length) _ qs = crashOn m (i + (ps.length + 1)) (crashOn m (i + 1) _ ps) qs
    rw [show i + 1 + ps.length = i + (ps.length + 1) by omega]

/-- Writes of which no sector stays. -/
theorem crashOn_idle {n : Nat} (m : Nat → Int) (i : Nat) {bs : List ByteArray} (ps : List (Int × ByteArray)) (hl : bs.length = n) (hb : ∀ s ∈ bs, okS s = true) (h : ∀ p ∈ ps, okW n p = true)
    (hm : ∀ j, j < ps.length → m (i + j) = 0) : crashOn m i bs ps = bs := by
  induction ps generalizing i bs with
  | nil => rfl
  | cons p ps ih =>
    obtain ⟨⟨p0, p1⟩, _⟩ := (okW_iff n p).1 (h p List.mem_cons_self)
    have hk : p.1.toNat < bs.length := by omega
    obtain ⟨hs, he⟩ := (okS_iff _).1 (hb _ (blk_mem hk))
    have e : bs.set p.1.toNat (mixS (blk bs p.1.toNat) p.2 (m i)) = bs := by
      have h0 : m i = 0 := hm 0 (by simp)
      rw [h0, mix_keep _ _ hs, trim_even he]
      refine blk_ext (by rw [List.length_set]) fun k _ => ?_
      by_cases hkk : p.1.toNat = k
      · rw [← hkk, blk_set_same hk]
      · rw [blk_set_other hkk]
    show crashOn m (i + 1) (bs.set p.1.toNat (mixS (blk bs p.1.toNat) p.2 (m i))) ps = bs
    rw [e]
    refine ih (i + 1) hl hb (fun q hq => h q (List.mem_cons_of_mem p hq)) fun j hj => ?_
    have := hm (j + 1) (by simp; omega)
    rwa [show i + (j + 1) = i + 1 + j by omega] at this

theorem crash_rest {bs : List ByteArray} {ps : List (Int × ByteArray)} (h : rightD bs ps = true) (ms : List Int) : crashL (maskAt ms) bs ps = crashN (maskAt ms) bs ps ms.length := by
  obtain ⟨_, hb, hp⟩ := (rightD_iff bs ps).1 h
  unfold crashN crashL
  conv => lhs; rw [← List.take_append_drop ms.length ps]
  rw [crashOn_append]
  refine crashOn_idle (n := bs.length) _ _ _ (crashOn_length _ _ _ _) (crashOn_ok _ _ _ hb) (fun p hq => hp p (List.mem_of_mem_drop hq)) fun j hj => ?_
  unfold maskAt
  have hd : ms.length < ps.length := by rw [List.length_drop] at hj; omega
  rw [List.length_take, Nat.min_eq_left (by omega), Nat.zero_add, List.getElem?_eq_none (by omega)]; rfl

theorem crash_all {bs : List ByteArray} {ps : List (Int × ByteArray)} (m : Nat → Int) : crashL m bs ps = crashN m bs ps ps.length := by
  unfold crashN crashL
  rw [List.take_length]

/-- What Crash answers. -/
def crashA (m : Nat → Int) (bs : List ByteArray) (ps : List (Int × ByteArray)) : List ByteArray := if rightD bs ps = true then crashL m bs ps else []

theorem blk_get {bs : List ByteArray} {k : Nat} (h : k < bs.length) : bs[k]? = some (blk bs k) := by
  unfold blk
  rw [List.getElem?_eq_getElem h]; rfl

/-- What the operations of Crash's line yield. -/
def crashV (g n cap h k b2 o2 m cm j : Nat) (z s : ByteArray) (q : Int) (y : ByteArray) : Nat → Value
  | 0 => .slice (some ⟨g, 0, none⟩) n cap
  | 1 => .pointer (some ⟨h, 0, none⟩)
  | 2 => .int .i64 k
  | 3 => .slice (some ⟨g, 0, none⟩) n cap
  | 4 => .pointer (some ⟨h, 0, none⟩)
  | 5 => .int .i64 k
  | 6 => .pointer (some ⟨g, k, none⟩)
  | 7 => .string z
  | 8 => .pointer (some ⟨h, 1, none⟩)
  | 9 => .string s
  | 10 => .slice (some ⟨b2, o2, none⟩) m cm
  | 11 => .int .i64 j
  | 12 => .pointer (some ⟨b2, o2 + j, none⟩)
  | 13 => .int .i64 q
  | 14 => .string y
  | 15 => .pointer (some ⟨g, k, none⟩)
  | _ => undef

set_option maxHeartbeats 4000000 in
theorem crash_any (a a' am : Option Addr) (c c' cm' : Nat) (bs : List ByteArray) (ps : List (Int × ByteArray)) (ms : List Int) (w : World) (hS : IsS w a c bs) (hP : IsP w a' c' ps) (hI : IsI w am cm' ms) :
    Calls Try.prog 23 #[.agg #[.slice a bs.length c, .slice a' ps.length c'], .slice am ms.length cm'] w fun e w' => ∃ b d, e = .returned (.tuple #[.agg #[.slice b (crashA (maskAt ms) bs ps).length d, .slice none 0 0], .int .i64 (rightE bs ps)]) ∧ IsS w' b d (crashA (maskAt ms) bs ps) ∧ Below w.heap.size w w' := by
  obtain ⟨W, hW⟩ : ∃ W, W = (w.alloc (.cells #[.slice a bs.length c, .slice a' ps.length c'] 48)).alloc (.cells #[.slice none 0 0, .slice none 0 0] 48) := ⟨_, rfl⟩
  obtain ⟨hB0, hWs, ⟨d0, d1⟩, ⟨e0, e1⟩, f0, f1⟩ := two_boxes hW
  have c1 := right_any a a' c c' bs ps W (hS.below hB0) (hP.below hB0)
  have hm6 : ms.length ≤ 9223372036854775807 := Nat.le_trans hI.1 hI.2.1
  cases hr : rightD bs ps with
  | false =>
    have x1 : Hid (crashA (maskAt ms) bs ps = []) := by show _ = _; unfold crashA; rw [hr]; rfl
    have x2 : Hid (rightE bs ps = 1) := by show _ = _; unfold rightE; rw [hr]; rfl
    rw [hr, hW] at c1
    go_enter Try.func23, Try.ntmps23
    go_wp2_with (go_at_call 40; refine c1.mono ?_; rintro e w1 ⟨rfl, hb⟩; rw [← hW] at hb; replace e0 := cell_below hb e0; replace e1 := cell_below hb e1; replace f0 := frozen_below hb (by omega) f0; replace f1 := frozen_below hb (by omega) f1)
    refine bodyPost_ret (v := .tuple #[.agg #[.slice none 0 0, .slice none 0 0], .int .i64 1]) (by simp [results, Try.results23, go_sem, e0, e1]) rfl ⟨none, 0, by rw [x1.out, x2.out]; rfl, by rw [x1.out]; exact IsS_nil _, ?_⟩
    exact ((Below.tr hB0 hb).setCell (p := ⟨w.heap.size + 1, 0, none⟩) (Nat.le_succ _) _).setCell (p := ⟨w.heap.size + 1, 1, none⟩) (Nat.le_succ _) _
  | true =>
    obtain ⟨⟨h1, h2, h3⟩, hbok, hpw⟩ := (rightD_iff bs ps).1 hr
    have x2 : Hid (rightE bs ps = 0) := by show _ = _; unfold rightE; rw [hr]; rfl
    have HP : Hid (IsP w a' c' ps) := hP
    have HS : Hid (IsS w a c bs) := hS
    have HI : Hid (IsI w am cm' ms) := hI
    have HR : Hid (rightD bs ps = true) := hr
    have HW : Hid (∀ p ∈ ps, okW bs.length p = true) := hpw
    have x1 : Hid (crashA (maskAt ms) bs ps = crashL (maskAt ms) bs ps) := by show _ = _; unfold crashA; rw [hr]; rfl
    have HZ : Hid (∀ j, ∀ x ∈ crashN (maskAt ms) bs ps j, x.size ≤ maxLen) := fun j => flush_sizes hr _ _
    have xr : Hid (crashL (maskAt ms) bs ps = crashN (maskAt ms) bs ps ms.length) := crash_rest hr ms
    have xa : Hid (crashL (maskAt ms) bs ps = crashN (maskAt ms) bs ps ps.length) := crash_all _
    rw [hr, hW] at c1
    clear hP hS hpw hI hbok
    go_enter Try.func23, Try.ntmps23
    go_wp2_with (first
      | (go_at_call 40; refine c1.mono ?_; rintro e w1 ⟨rfl, hb⟩; rw [← hW] at hb; replace d0 := cell_below hb d0; replace d1 := cell_below hb d1; replace e0 := cell_below hb e0; replace e1 := cell_below hb e1; replace f0 := frozen_below hb (by omega) f0; replace f1 := frozen_below hb (by omega) f1; have hB1 := Below.tr hB0 hb; have hs1 := hb.size; clear hb)
      | (go_at_call 41; refine (clone_any a c bs _ (HS.out.below hB1) h1 h2).mono ?_; rintro e w2 ⟨g, cap, rfl, hg, hrow, hb⟩; replace d0 := cell_below hb d0; replace d1 := cell_below hb d1; replace e0 := cell_below hb e0; replace e1 := cell_below hb e1; replace f0 := frozen_below hb (by omega) f0; replace f1 := frozen_below hb (by omega) f1; have hB2 := Below.tr hB1 hb; have hs2 := hb.size; have HROW : Hid (RowS w2 g cap bs) := hrow; clear hb hrow))
    have hgs : w.heap.size + 1 < g := by omega
    clear c1 HS hW
    go_loopw [19] (fun v wr => ∃ j : Nat, j ≤ ps.length ∧ j ≤ ms.length ∧ v = .int .i64 j ∧ RowS wr g cap (crashN (maskAt ms) bs ps j) ∧ Kept g w2 wr ∧ Below w.heap.size w wr) (fun v _ => ps.length - (intOf v).toNat)
    case atStart => exact ⟨0, by omega, by omega, rfl, HROW.out, Kept.refl _ _, hB2⟩
    case round =>
      obtain ⟨j, hj, hjm, rfl, hrow, hkp, hbel⟩ := hrel
      have HROW2 : Hid (RowS wr g cap (crashN (maskAt ms) bs ps j)) := hrow
      clear hrow
      by_cases hlt : j < ps.length
      · obtain ⟨p, hx⟩ : ∃ x, ps[j]? = some x := ⟨_, List.getElem?_eq_getElem hlt⟩
        obtain ⟨b, o, rfl, hlb, hc1, hc2, hxs, hlo, hhi⟩ := (hkp.isP HP.out hB2 (by omega)).2.2 j p hx
        have hlt' : (j : Int) < ps.length := by omega
        by_cases hlm : j < ms.length
        · obtain ⟨q, hq⟩ : ∃ x, ms[j]? = some x := ⟨_, List.getElem?_eq_getElem hlm⟩
          obtain ⟨b2, o2, rfl, hlb2, hc3⟩ := (hkp.isI HI.out hB2 (by omega)).2.2 j q hq
          obtain ⟨⟨hp0, hp1⟩, -⟩ := (okW_iff _ _).1 (HW.out p (List.mem_of_getElem? hx))
          obtain ⟨k, hk⟩ : ∃ k : Nat, p.1 = k := ⟨p.1.toNat, by omega⟩
          have hkl : k < (crashN (maskAt ms) bs ps j).length := by rw [crashN_length]; omega
          obtain ⟨hrc, hrf⟩ := HROW2.out.cell (blk_get hkl)
          have hzs : (blk (crashN (maskAt ms) bs ps j) k).size ≤ maxLen := HZ.out j _ (blk_mem hkl)
          have hqm' := hq
          have hqm : maskAt ms j = q := by unfold maskAt; rw [hq]; rfl
          obtain ⟨z, hz⟩ : ∃ z, z = blk (crashN (maskAt ms) bs ps j) k := ⟨_, rfl⟩
          obtain ⟨y, hy⟩ : ∃ y, y = mixS z p.2 q := ⟨_, rfl⟩
          have hnx : Hid (∀ V, RowS V g cap (crashN (maskAt ms) bs ps j) → RowS (V.setCell ⟨g, k, none⟩ (.string y)) g cap (crashN (maskAt ms) bs ps (j + 1))) := by
            intro V hV
            rw [crashN_succ _ _ hx, hk, hqm]
            show RowS _ _ _ ((crashN (maskAt ms) bs ps j).set k (mixS (blk (crashN (maskAt ms) bs ps j) k) p.2 q))
            rw [← hz, ← hy]
            exact hV.set hkl y
          have cm : ∀ V, Calls Try.prog 42 #[.string z, .string p.2, .int .i64 q] V fun e w' => e = .returned (.string y) ∧ Below V.heap.size V w' := by
            intro V
            rw [hy]
            exact mix_any z p.2 q V (by rw [hz]; exact hzs) hxs
          have hk1 : (k : Int) < bs.length := by omega
          have hjne : ((j : Int) == (ms.length : Int)) = false := by simp; omega
          have hlm' : (j : Int) < ms.length := by omega
          rw [hk] at hc1
          rw [← hz] at hrc
          obtain ⟨V, hV⟩ : ∃ V, V = wr.alloc (.cells #[.int .i64 k, .string p.2] 45) := ⟨_, rfl⟩
          have hVB : Below wr.heap.size wr V := by rw [hV]; exact (Below.refl _ _).alloc (Nat.le_refl _) _
          have v0 : V.cell? ⟨wr.heap.size, 0, none⟩ = some (.int .i64 k) := by rw [hV]; exact World.cell?_alloc_at _ _ _ _ rfl
          have v1 : V.cell? ⟨wr.heap.size, 1, none⟩ = some (.string p.2) := by rw [hV]; exact World.cell?_alloc_at _ _ _ _ rfl
          have v2 := cell_below hVB hrc
          have v3 := cell_below hVB hc3
          have hgl := HROW2.out.lt
          have v4 := frozen_below hVB hgl hrf
          have hVw : Below w.heap.size w V := Below.tr hbel hVB
          have hVk : Kept g w2 V := hkp.below hVB
          have HROW3 : Hid (RowS V g cap (crashN (maskAt ms) bs ps j)) := HROW2.out.below hVB
          clear hx hq HROW2 HROW hp0 hp1 hzs hz hy hqm hrc hc3 hrf hkp hbel
          go_wp2
          rw [← hV]
          have hb2g : b2 ≠ g := by
            obtain ⟨b', o', he, hl, _⟩ := HI.out.2.2 j q hqm'
            cases he
            omega
          clear hV hVB hqm'
          refine region_vals (by kernel_rfl) 16 (crashV g bs.length cap wr.heap.size k b2 o2 ms.length cm' j z p.2 q y)
            (fun X => (X.cell? ⟨wr.heap.size, 0, none⟩ = some (.int .i64 k) ∧ X.cell? ⟨wr.heap.size, 1, none⟩ = some (.string p.2) ∧ X.cell? ⟨g, k, none⟩ = some (.string z) ∧ X.cell? ⟨b2, o2 + j, none⟩ = some (.int .i64 q) ∧ X.frozen? ⟨g, k, none⟩ = false) ∧ Below w.heap.size w X ∧ RowS X g cap (crashN (maskAt ms) bs ps j) ∧ Kept g w2 X)
            (fun X => Below w.heap.size w X ∧ RowS X g cap (crashN (maskAt ms) bs ps (j + 1)) ∧ Kept g w2 X) (by kernel_rfl) (by kernel_rfl) ⟨⟨v0, v1, v2, v3, v4⟩, hVw.drew, RowS.below HROW3.out (Below.refl _ _).drew, Kept.below hVk (Below.refl _ _).drew⟩ ?step 17 rfl ?done
          case step =>
            intro i o ho a' X hS hdf hsz hdep hsame
            obtain ⟨⟨s0, s1, s2, s3, s4⟩, s5, s6, s7⟩ := id hS
            match i, ho with
            | 0, ho =>
              cases ho
              have h6 := hsame 6 rfl
              exact val_op rfl (wanted_free rfl) (by clear hdep hsame hsz hdf; simp only [crashV]; go_simp) rfl hS
            | 1, ho =>
              cases ho
              have h8 := hsame 8 rfl
              exact val_op rfl (wanted_free rfl) (by clear hdep hsame hsz hdf; simp only [crashV]; go_simp) rfl hS
            | 2, ho =>
              cases ho
              have h29 := hdep 1 _ 29 rfl rfl rfl
              simp only [crashV] at h29
              exact val_op rfl (wanted_free rfl) (by clear hdep hsame hsz hdf; simp only [crashV]; go_simp) rfl hS
            | 3, ho =>
              cases ho
              have h6 := hsame 6 rfl
              exact val_op rfl (wanted_free rfl) (by clear hdep hsame hsz hdf; simp only [crashV]; go_simp) rfl hS
            | 4, ho =>
              cases ho
              have h8 := hsame 8 rfl
              exact val_op rfl (wanted_free rfl) (by clear hdep hsame hsz hdf; simp only [crashV]; go_simp) rfl hS
            | 5, ho =>
              cases ho
              have h32 := hdep 4 _ 32 rfl rfl rfl
              simp only [crashV] at h32
              exact val_op rfl (wanted_free rfl) (by clear hdep hsame hsz hdf; simp only [crashV]; go_simp) rfl hS
            | 6, ho =>
              cases ho
              have h31 := hdep 3 _ 31 rfl rfl rfl
              have h33 := hdep 5 _ 33 rfl rfl rfl
              simp only [crashV] at h31 h33
              exact val_op rfl (wanted_free rfl) (by clear hdep hsame hsz hdf; simp only [crashV]; go_simp) rfl hS
            | 7, ho =>
              cases ho
              have h34 := hdep 6 _ 34 rfl rfl rfl
              simp only [crashV] at h34
              exact val_op rfl (wanted_free rfl) (by clear hdep hsame hsz hdf; simp only [crashV]; go_simp) rfl hS
            | 8, ho =>
              cases ho
              have h8 := hsame 8 rfl
              exact val_op rfl (wanted_free rfl) (by clear hdep hsame hsz hdf; simp only [crashV]; go_simp) rfl hS
            | 9, ho =>
              cases ho
              have h36 := hdep 8 _ 36 rfl rfl rfl
              simp only [crashV] at h36
              exact val_op rfl (wanted_free rfl) (by clear hdep hsame hsz hdf; simp only [crashV]; go_simp) rfl hS
            | 10, ho =>
              cases ho
              have h1 := hsame 1 rfl
              exact val_op rfl (wanted_free rfl) (by clear hdep hsame hsz hdf; simp only [crashV]; go_simp) rfl hS
            | 11, ho =>
              cases ho
              have h7 := hsame 7 rfl
              exact val_op rfl (wanted_free rfl) (by clear hdep hsame hsz hdf; simp only [crashV]; go_simp) rfl hS
            | 12, ho =>
              cases ho
              have h38 := hdep 10 _ 38 rfl rfl rfl
              have h39 := hdep 11 _ 39 rfl rfl rfl
              simp only [crashV] at h38 h39
              exact val_op rfl (wanted_free rfl) (by clear hdep hsame hsz hdf; simp only [crashV]; go_simp) rfl hS
            | 13, ho =>
              cases ho
              have h40 := hdep 12 _ 40 rfl rfl rfl
              simp only [crashV] at h40
              exact val_op rfl (wanted_free rfl) (by clear hdep hsame hsz hdf; simp only [crashV]; go_simp) rfl hS
            | 14, ho =>
              cases ho
              have h35 := hdep 7 _ 35 rfl rfl rfl
              have h37 := hdep 9 _ 37 rfl rfl rfl
              have h41 := hdep 13 _ 41 rfl rfl rfl
              simp only [crashV] at h35 h37 h41
              exact val_call rfl (wanted_free rfl) (by clear hdep hsame hsz hdf; go_simp) ((cm _).mono fun e w'' ⟨he, hb⟩ => ⟨he, ⟨cell_below hb s0, cell_below hb s1, cell_below hb s2, cell_below hb s3, frozen_below hb s6.lt s4⟩, Below.tr s5 hb, s6.below hb, s7.below hb⟩)
            | 15, ho =>
              cases ho
              have h28 := hdep 0 _ 28 rfl rfl rfl
              have h30 := hdep 2 _ 30 rfl rfl rfl
              simp only [crashV] at h28 h30
              exact val_op rfl (wanted_free rfl) (by clear hdep hsame hsz hdf; simp only [crashV]; go_simp) rfl hS
            | 16, ho =>
              cases ho
              have h43 := hdep 15 _ 43 rfl rfl rfl
              have h42 := hdep 14 _ 42 rfl rfl rfl
              simp only [crashV] at h43 h42
              exact val_skip (w' := X.setCell ⟨g, k, none⟩ (.string y)) rfl (wanted_free rfl) rfl (by clear hdep hsame hsz hdf; go_simp) ⟨s5.setCell (p := ⟨g, k, none⟩) (by show _ ≤ g; omega) _, hnx.out _ s6, s7.set _ _⟩
            | n + 17, ho => simp at ho
          case done =>
            rintro X ⟨s5, s6, s7⟩
            simp [filledN, crashV]
            go_wp2
            go_roundw
            case rel => exact ⟨j + 1, by omega, by omega, by go_num, s6, s7, s5⟩
            case measure => simp [intOf]; omega
        · obtain rfl : j = ms.length := by omega
          replace e0 := hkp.cell (by show w.heap.size + 1 ≠ g; omega) e0
          replace e1 := hkp.cell (by show w.heap.size + 1 ≠ g; omega) e1
          replace f0 := hkp.frozen (by show w.heap.size + 1 < w2.heap.size; omega) (by show w.heap.size + 1 ≠ g; omega) f0
          replace f1 := hkp.frozen (by show w.heap.size + 1 < w2.heap.size; omega) (by show w.heap.size + 1 ≠ g; omega) f1
          have hws : w.heap.size + 1 < wr.heap.size := by have := hkp.1; omega
          have e0a := cell_alloc e0
          have e1a := cell_alloc e1
          have f0a := frozen_alloc hws f0
          have f1a := frozen_alloc hws f1
          have HE : Hid (∀ v v' o, IsS (((wr.setCell ⟨w.heap.size + 1, 0, none⟩ v).setCell ⟨w.heap.size + 1, 1, none⟩ v').alloc o) (some ⟨g, 0, none⟩) cap (crashA (maskAt ms) bs ps)) := by
            intro v v' o
            refine IsS.below ?_ ((Below.refl _ _).alloc (Nat.le_refl _) _)
            rw [x1.out, xr.out]
            exact (RowS.setOther (RowS.setOther HROW2.out (by omega)) (by omega)).isS (HZ.out _)
          have hl : (crashA (maskAt ms) bs ps).length = bs.length := by rw [x1.out, xr.out]; exact crashN_length _ _ _ _
          clear HROW HROW2 HP HW HI
          have hjn : ((ms.length : Int) == (ms.length : Int)) = true := by simp
          have hres := res_cells e0 e1
          go_wp2
          refine bodyPost_ret (v := .tuple #[.agg #[.slice (some ⟨g, 0, none⟩) bs.length cap, .slice none 0 0], .int .i64 0]) (by simp [results, Try.results23, go_sem, (hres _ _ _).1, (hres _ _ _).2]) rfl ⟨some ⟨g, 0, none⟩, cap, by rw [x2.out, hl], HE.out _ _ _, ?_⟩
          exact ((hbel.setCell (p := ⟨w.heap.size + 1, 0, none⟩) (Nat.le_succ _) _).setCell (p := ⟨w.heap.size + 1, 1, none⟩) (Nat.le_succ _) _).alloc (by simpa using hbel.size) _
      · obtain rfl : j = ps.length := by omega
        replace e0 := hkp.cell (by show w.heap.size + 1 ≠ g; omega) e0
        replace e1 := hkp.cell (by show w.heap.size + 1 ≠ g; omega) e1
        replace f0 := hkp.frozen (by show w.heap.size + 1 < w2.heap.size; omega) (by show w.heap.size + 1 ≠ g; omega) f0
        replace f1 := hkp.frozen (by show w.heap.size + 1 < w2.heap.size; omega) (by show w.heap.size + 1 ≠ g; omega) f1
        have HE : Hid (∀ v v', IsS ((wr.setCell ⟨w.heap.size + 1, 0, none⟩ v).setCell ⟨w.heap.size + 1, 1, none⟩ v') (some ⟨g, 0, none⟩) cap (crashA (maskAt ms) bs ps)) := by
          intro v v'
          rw [x1.out, xa.out]
          exact (RowS.setOther (RowS.setOther HROW2.out (by omega)) (by omega)).isS (HZ.out _)
        have hl : (crashA (maskAt ms) bs ps).length = bs.length := by rw [x1.out, xa.out]; exact crashN_length _ _ _ _
        clear HROW HROW2 hkp HP HW HI
        go_wp2
        refine bodyPost_ret (v := .tuple #[.agg #[.slice (some ⟨g, 0, none⟩) bs.length cap, .slice none 0 0], .int .i64 0]) (by simp [results, Try.results23, go_sem, e0, e1]) rfl ⟨some ⟨g, 0, none⟩, cap, by rw [x2.out, hl], HE.out _ _, ?_⟩
        exact (hbel.setCell (p := ⟨w.heap.size + 1, 0, none⟩) (Nat.le_succ _) _).setCell (p := ⟨w.heap.size + 1, 1, none⟩) (Nat.le_succ _) _

end Go.Proofs.Ytcdcnonkoffbhaa

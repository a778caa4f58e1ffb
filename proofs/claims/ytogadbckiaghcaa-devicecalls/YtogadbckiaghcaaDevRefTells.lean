/-
  The document's own Tells and Write of a device.
-/
import Derived.Test.YtogadbckiaghcaaDevWrites
import Derived.Test.YtogadbckiaghcaaDevRefBytes
import Derived.Test.YtogadbckiaghcaaDevRefCrash
import Derived.Test.YtogadbckiaghcaaAnychain
namespace Go.Proofs.Ytogadbckiaghcaa
open Go.RowKit Plain Anylast
set_option linter.unusedVariables false

/-- What a block tells behind the first so many writes. -/
def tellN (z : ByteArray) (ps : List (Int × ByteArray)) (k : Int) (j : Nat) : ByteArray := tellOn k z (ps.take j)

theorem tellN_succ (z : ByteArray) {ps : List (Int × ByteArray)} (k : Int) {j : Nat} {p : Int × ByteArray} (hp : ps[j]? = some p) : tellN z ps k (j + 1) = if p.1 = k then p.2 else tellN z ps k j := by
  unfold tellN
  rw [List.take_add_one, hp, tellOn_append]
  rfl

set_option maxHeartbeats 2000000 in
theorem refTells_any (a a' : Option Addr) (c c' : Nat) (bs : List ByteArray) (ps : List (Int × ByteArray)) (k : Nat) (w : World) (hS : IsS w a c bs) (hP : IsP w a' c' ps) (hk : k < bs.length) :
    Calls Try.prog 19 #[.agg #[.slice a bs.length c, .slice a' ps.length c'], .int .i64 k] w fun e w' => e = .returned (.string (tellsS bs ps k)) ∧ Below w.heap.size w w' := by
  have hB0 : Below w.heap.size w (w.alloc (.cells #[.slice a bs.length c, .slice a' ps.length c'] 25)) := (Below.refl _ _).alloc (Nat.le_refl _) _
  obtain ⟨b, o, rfl, hlb, hcx, hxs⟩ := (hS.below hB0).2.2 k (blk bs k) (by unfold blk; rw [List.getElem?_eq_getElem (by omega)]; rfl)
  have HP : Hid (IsP _ a' c' ps) := hP.below hB0
  have hm : bs.length ≤ 9223372036854775807 := Nat.le_trans hS.1 hS.2.1
  have hm' : ps.length ≤ 9223372036854775807 := Nat.le_trans hP.1 hP.2.1
  have HT : Hid (tellsS bs ps k = tellN (blk bs k) ps k ps.length) := by show _ = _; unfold tellsS tellN; rw [List.take_length]
  have hk' : (k : Int) < bs.length := by omega
  clear hS hP
  generalize blk bs k = z at hcx hxs HT
  obtain ⟨W, hW⟩ : ∃ W, W = w.alloc (.cells #[.slice (some ⟨b, o, none⟩) bs.length c, .slice a' ps.length c'] 25) := ⟨_, rfl⟩
  have d1 : W.cell? ⟨w.heap.size, 1, none⟩ = some (.slice a' ps.length c') := by rw [hW]; exact World.cell?_alloc_at _ _ _ _ rfl
  rw [← hW] at HP hB0
  go_enter Try.func19, Try.ntmps19
  go_wp2
  rw [← hW]
  clear hW hcx
  go_loopw [5, 16] (fun s v wr => ∃ j : Nat, j ≤ ps.length ∧ v = .int .i64 j ∧ s = .string (tellN z ps k j) ∧ Below W.heap.size W wr) (fun _ v _ => ps.length - (intOf v).toNat)
  case atStart => exact ⟨0, by omega, rfl, rfl, Below.refl _ _⟩
  case round =>
    obtain ⟨j, hj, rfl, rfl, hbel⟩ := hrel
    by_cases hlt : j < ps.length
    · obtain ⟨p, hx⟩ : ∃ x, ps[j]? = some x := ⟨_, List.getElem?_eq_getElem hlt⟩
      obtain ⟨b2, o2, rfl, hlb2, hc1, hc2, hxs2, hlo, hhi⟩ := HP.out.2.2 j p hx
      replace hc1 := cell_below hbel hc1
      replace hc2 := cell_below hbel hc2
      have hlt' : (j : Int) < ps.length := by omega
      have hbs := hbel.size
      by_cases hpk : p.1 = (k : Int)
      · have hn : Hid (tellN z ps k (j + 1) = p.2) := by show _ = _; rw [tellN_succ z _ hx, if_pos hpk]
        rw [hpk] at hc1
        clear hx
        go_wp2
        go_roundw
        case rel => exact ⟨j + 1, by omega, by go_num, by rw [hn.out], hbel.alloc hbs _⟩
        case measure => simp [intOf]; omega
      · have hn : Hid (tellN z ps k (j + 1) = tellN z ps k j) := by show _ = _; rw [tellN_succ z _ hx, if_neg hpk]
        have hpk' : (p.1 == (k : Int)) = false := by simpa using hpk
        clear hx
        go_wp2
        go_roundw
        case rel => exact ⟨j + 1, by omega, by go_num, by rw [hn.out], hbel.alloc hbs _⟩
        case measure => simp [intOf]; omega
    · obtain rfl : j = ps.length := by omega
      go_wp2
      go_ret
      exact ⟨by rw [HT.out]; rfl, Below.tr hB0 hbel⟩

/-- One write that was just laid. -/
theorem row_new (V : World) (t : TypeId) (n : Nat) (p : Int × ByteArray) (hn : n = V.heap.size) : ∀ j u, (cellsP [p])[j]? = some u → (V.alloc (.cells #[.int .i64 p.1, .string p.2] t)).cell? ((⟨n, 0, none⟩ : Addr).add j) = some u := by
  intro j u hj
  rw [at_add, Nat.zero_add, Joins_cell _ _ _ _ _ hn]
  match j, hj with
  | 0, hj => exact hj
  | 1, hj => exact hj
  | j + 2, hj => simp [cellsP] at hj

/-- What the operations of Write's last line yield, and the worlds behind them. -/
def appV (h b n g cap : Nat) (u : Value) (k : Int) (s y : ByteArray) : Nat → Value
  | 0 => .pointer (some ⟨h, 1, none⟩)
  | 1 => u
  | 2 => .int .i64 k
  | 3 => .string s
  | 4 => .string y
  | 5 => .agg #[.int .i64 k, .string y]
  | 6 => .slice (some ⟨b, 0, none⟩) 1 1
  | 7 => .slice (some ⟨g, 0, none⟩) (n + 1) cap
  | 8 => .pointer (some ⟨h, 1, none⟩)
  | _ => undef

def fourW (w0 w1 w2 w3 : World) : Nat → World
  | 0 => w0
  | 1 => w1
  | 2 => w2
  | _ => w3

set_option maxRecDepth 20000 in
set_option maxHeartbeats 8000000 in
theorem refWrite_any (a a' : Option Addr) (c c' : Nat) (bs : List ByteArray) (ps : List (Int × ByteArray)) (k : Int) (s : ByteArray) (w : World) (hS : IsS w a c bs) (hP : IsP w a' c' ps) (hk6 : -9223372036854775808 ≤ k ∧ k ≤ 9223372036854775807) (hs : s.size ≤ maxLen) (hl : ps.length ≤ 2047) :
    Calls Try.prog 20 #[.agg #[.slice a bs.length c, .slice a' ps.length c'], .int .i64 k, .string s] w fun e w' => ∃ g cap, e = .returned (.agg #[.slice a bs.length c, .slice (some ⟨g, 0, none⟩) (ps.length + 1) cap]) ∧ IsP w' (some ⟨g, 0, none⟩) cap (ps ++ [(k, trimS s)]) ∧ Below w.heap.size w w' := by
  obtain ⟨i0, hi, hz0, hz1, hz2⟩ := info_parts Try.info50
  obtain ⟨W, hW⟩ : ∃ W, W = ((w.alloc (.cells #[.slice a bs.length c, .slice a' ps.length c'] 25)).alloc (.cells #[.slice none 0 0, .slice none 0 0] 25)).alloc (.cells #[.slice a bs.length c, .slice none 0 0] 25) := ⟨_, rfl⟩
  obtain ⟨hB0, hWs', ⟨d0, d1⟩, ⟨e0, e1⟩, ⟨f0, f1⟩, ⟨x0, x1⟩, y0, y1⟩ := three_boxes hW
  obtain ⟨B, hBW, hBw⟩ : ∃ B, B = W.heap.size ∧ w.heap.size + 2 < B := ⟨_, rfl, by omega⟩
  have HBW : Hid (B = W.heap.size) := hBW
  have hWs : Hid (W.heap.size = w.heap.size + 3) := hWs'
  have HP : Hid (IsP w a' c' ps) := hP
  have HK : Hid (∀ p ∈ ps, okP p) := isP_okP hP
  clear hS hBW hWs' hP
  go_enter Try.func20, Try.ntmps20
  go_wp2
  rw [← hW]
  clear hW
  go_loopw [16] (fun v wr => ∃ (j : Nat) (u : Value), j ≤ ps.length ∧ v = .int .i64 j ∧ wr.ownsRow B 50 2 u j (cellsP (ps.take j)) ∧ wr.cell? ⟨w.heap.size + 2, 0, none⟩ = some (.slice a bs.length c) ∧ wr.cell? ⟨w.heap.size + 2, 1, none⟩ = some u ∧
      wr.frozen? ⟨w.heap.size + 2, 0, none⟩ = false ∧ wr.frozen? ⟨w.heap.size + 2, 1, none⟩ = false ∧ Kept (w.heap.size + 2) W wr ∧ Below w.heap.size w wr) (fun v _ => ps.length - (intOf v).toNat)
  case atStart => exact ⟨0, .slice none 0 0, by omega, rfl, ⟨rfl, .inl ⟨rfl, rfl⟩⟩, x0, x1, y0, y1, Kept.refl _ _, hB0⟩
  case round =>
    clear x0 x1 y0 y1
    obtain ⟨j, u, hj, rfl, hown, q0, q1, g0, g1, hkp, hbel⟩ := hrel
    have hWr : B ≤ wr.heap.size := by rw [HBW.out]; exact hkp.1
    by_cases hlt : j < ps.length
    · obtain ⟨p, hx⟩ : ∃ x, ps[j]? = some x := ⟨_, List.getElem?_eq_getElem hlt⟩
      obtain ⟨b, o, rfl, hlb, hc1, hc2, hxs⟩ := (hkp.isP HP.out hB0 (by omega)).2.2 j p hx
      have hlt' : (j : Int) < ps.length := by omega
      have hnx : Hid (cellsP (ps.take (j + 1)) = cellsP (ps.take j) ++ cellsP [p]) := by
        show _ = _
        rw [List.take_add_one, hx, ← cellsP_append]; rfl
      have hrow : ∀ k, u.ownBlock = some k → w.heap.size + 2 < k := fun k hk => by have := (hown.lt k hk).1; omega
      have hrow2 : ∀ k, u.ownBlock = some k → B ≤ k := fun k hk => (hown.lt k hk).1
      have q1a := fun o => cell_alloc (cell_alloc q1 o)
      have hwl : w.heap.size + 2 < wr.heap.size := by omega
      clear hx
      go_wp2_with (at_builtin; refine wpList_append_own _ rfl _ _ 23 rfl B 50 i0 _ 2 24 Try.underlying23 hi hz0 hz1 hz2 rfl (by decide) _ _ _ rfl ((hown.alloc _).alloc _) ⟨wr.heap.size + 1, 0, none⟩ 1 1 (cellsP [p]) rfl rfl ?c1 ?c2 ?c3 ?c4 ?c5 ?_)
      case c1 => exact row_new _ _ _ p (by simp)
      case c2 => exact cellsP_one _
      case c3 => unfold maxLen; omega
      case c4 => omega
      case c5 => simp; omega
      · intro v' w1 hown' hgrow _
        have R : w1.ownsRow B 50 2 v' (j + 1) (cellsP (ps.take (j + 1))) := by rw [hnx.out]; exact hown'
        obtain ⟨g, cap, rfl, -, -⟩ := R.form (by omega)
        have HR : Hid (w1.ownsRow B 50 2 (.slice (some ⟨g, 0, none⟩) (j + 1) cap) (j + 1) (cellsP (ps.take (j + 1)))) := R
        have hgB : B ≤ g := (R.lt g rfl).1
        have r0 := grown_cell hgrow hrow (cell_alloc (cell_alloc q0 _) _)
        have r1 := grown_cell hgrow hrow (cell_alloc (cell_alloc q1 _) _)
        have t0 := grown_frozen hgrow (by simp; omega) hrow (frozen_alloc (by simp; omega) (frozen_alloc hwl g0 _) _)
        have t1 := grown_frozen hgrow (by simp; omega) hrow (frozen_alloc (by simp; omega) (frozen_alloc hwl g1 _) _)
        have hk' : Kept (w.heap.size + 2) W w1 := ((hkp.alloc _).alloc _).grown hgrow (fun k hk => by rw [← HBW.out]; exact hrow2 k hk)
        have hb' : Below w.heap.size w w1 := ((hbel.alloc (by omega) _).alloc (by simp; omega) _).grown hgrow (by simp; omega) (fun k hk => by have := hrow2 k hk; omega)
        clear hown' hgrow hown R q0 q1 g0 g1 q1a hkp hbel hrow hrow2
        go_wp2
        go_roundw
        case rel =>
          refine ⟨j + 1, _, by omega, by go_num, ?_, ?_, World.cell?_setCell_same _ _ _ r1, by rw [World.frozen?_setCell]; exact t0, by rw [World.frozen?_setCell]; exact t1, hk'.set _ _, hb'.setCell (p := ⟨w.heap.size + 2, 1, none⟩) (by show w.heap.size ≤ w.heap.size + 2; omega) _⟩
          · exact own_set HR.out (by omega)
          · rw [World.cell?_setCell_other _ _ _ _ (fun hh => by cases hh)]; exact r0
        case measure => simp [intOf]; omega
    · obtain rfl : j = ps.length := by omega
      rw [List.take_length] at hown
      have hrow : ∀ k, u.ownBlock = some k → w.heap.size + 2 < k := fun k hk => by have := (hown.lt k hk).1; omega
      have hrow2 : ∀ k, u.ownBlock = some k → B ≤ k := fun k hk => (hown.lt k hk).1
      replace e0 := hkp.cell (by show w.heap.size + 1 ≠ w.heap.size + 2; omega) e0
      replace e1 := hkp.cell (by show w.heap.size + 1 ≠ w.heap.size + 2; omega) e1
      replace f0 := hkp.frozen (by show w.heap.size + 1 < W.heap.size; rw [hWs.out]; omega) (by show w.heap.size + 1 ≠ w.heap.size + 2; omega) f0
      replace f1 := hkp.frozen (by show w.heap.size + 1 < W.heap.size; rw [hWs.out]; omega) (by show w.heap.size + 1 ≠ w.heap.size + 2; omega) f1
      have hwl : w.heap.size + 2 < wr.heap.size := by omega
      have ct := fun V => refTrim_any s V hs
      have hts : (trimS s).size ≤ maxLen := Nat.le_trans (trimS_le s) hs
      obtain ⟨y, hy⟩ : ∃ y, y = trimS s := ⟨_, rfl⟩
      have HY : Hid (y = trimS s) := hy
      rw [← hy] at ct hts
      clear hy
      obtain ⟨g, cap, w2, hrun, hown2, hgrow, hgo, hg2⟩ := run_append_lies (P := Try.prog) (wr.drew.alloc (.cells #[.int .i64 k, .string y] 50)) 23 23 B 50 i0 _ 2 24 Try.underlying23 hi hz0 hz1 hz2 rfl (by decide) u ps.length (cellsP ps) (hown.drew.alloc _) ⟨wr.heap.size, 0, none⟩ 1 1 (cellsP [(k, y)]) rfl (row_new _ _ _ (k, y) (by simp)) (cellsP_one _) (by omega) (by unfold maxLen; omega) (by omega) (by simp; omega) _ rfl
      have r0 := grown_cell hgrow hrow (cell_alloc (w := wr.drew) q0 _)
      have r1 := grown_cell hgrow hrow (cell_alloc (w := wr.drew) q1 _)
      have t1 := grown_frozen hgrow (by simp; omega) hrow (frozen_alloc (w := wr.drew) hwl g1 _)
      have hgw1 : ∀ k, u.ownBlock = some k → w.heap.size + 1 < k := fun k hk => by have := hrow k hk; omega
      have z0 := grown_cell hgrow hgw1 (cell_alloc (w := wr.drew) e0 _)
      have z1 := grown_cell hgrow hgw1 (cell_alloc (w := wr.drew) e1 _)
      have k0 := grown_frozen hgrow (by simp; omega) hgw1 (frozen_alloc (w := wr.drew) (by show _ < wr.heap.size; omega) f0 _)
      have k1 := grown_frozen hgrow (by simp; omega) hgw1 (frozen_alloc (w := wr.drew) (by show _ < wr.heap.size; omega) f1 _)
      have hb' : Below w.heap.size w w2 := (hbel.drew.alloc (by show _ ≤ wr.heap.size; omega) _).grown hgrow (by simp; omega) (fun k hk => by have := hrow2 k hk; omega)
      have hgB : B ≤ g := (hown2.lt g rfl).1
      have HI : Hid (IsP w2 (some ⟨g, 0, none⟩) cap (ps ++ [(k, y)])) := by
        rw [← cellsP_append] at hown2
        refine owned_isP hown2 (by simp) fun p hp => ?_
        rcases List.mem_append.1 hp with h | h
        · exact HK.out p h
        · obtain rfl : p = (k, y) := by simpa using h
          exact ⟨hts, hk6⟩
      have s0 : wr.drew.cell? ⟨w.heap.size + 1 + 1, 1, none⟩ = some u := q1
      have s1 : (wr.drew.alloc (.cells #[.int .i64 k, .string y] 50)).cell? ⟨w.heap.size + 1 + 1, 1, none⟩ = some u := cell_alloc (w := wr.drew) q1 _
      have s2 : w2.cell? ⟨w.heap.size + 1 + 1, 1, none⟩ = some u := r1
      have s3 : w2.frozen? ⟨w.heap.size + 1 + 1, 1, none⟩ = false := t1
      clear HP hown hown2 hgrow hgo hkp e0 e1 f0 f1 g0 g1 hbel HK d0 d1 hB0
      go_wp2
      refine region_worlds (by kernel_rfl) [6, 7, 9] (appV (w.heap.size + 1 + 1) wr.heap.size ps.length g cap u k s y) (fourW wr.drew (wr.drew.alloc (.cells #[.int .i64 k, .string y] 50)) w2 (w2.setCell ⟨w.heap.size + 1 + 1, 1, none⟩ (.slice (some ⟨g, 0, none⟩) (ps.length + 1) cap)))
        (by kernel_rfl) (by kernel_rfl) rfl ?step 10 rfl ?done
      case step =>
        intro i o ho n a2 hn hmay hdf hsz hdep hsame
        match i, ho with
        | 0, ho =>
          cases ho
          have h7 := hsame 7 rfl
          exact val_op rfl (wanted_free rfl) (by clear hdep hsame hsz hdf; simp only [appV]; go_simp) rfl rfl
        | 1, ho =>
          cases ho
          have h27 := hdep 0 _ 27 rfl rfl rfl
          simp only [appV] at h27
          match n, hn, hmay with
          | 0, _, _ => exact val_op rfl (wanted_free rfl) (by clear hdep hsame hsz hdf; simp only [appV, fourW]; go_simp) rfl rfl
          | 1, _, _ => exact val_op rfl (wanted_free rfl) (by clear hdep hsame hsz hdf; simp only [appV, fourW]; go_simp) rfl rfl
          | 2, _, h => cases h
          | 3, _, h => cases h
          | n + 4, hn, _ => simp at hn
        | 2, ho =>
          cases ho
          have h1 := hsame 1 rfl
          exact val_op rfl (wanted_free rfl) (by clear hdep hsame hsz hdf; simp only [appV]; go_simp) rfl rfl
        | 3, ho =>
          cases ho
          have h2 := hsame 2 rfl
          exact val_op rfl (wanted_free rfl) (by clear hdep hsame hsz hdf; simp only [appV]; go_simp) rfl rfl
        | 4, ho =>
          cases ho
          have h30 := hdep 3 _ 30 rfl rfl rfl
          simp only [appV] at h30
          exact val_call rfl (wanted_free rfl) (by clear hdep hsame hsz hdf; go_simp) ((ct _).mono fun e w'' ⟨he, hb⟩ => ⟨he, hb.symm⟩)
        | 5, ho =>
          cases ho
          have h29 := hdep 2 _ 29 rfl rfl rfl
          have h31 := hdep 4 _ 31 rfl rfl rfl
          simp only [appV] at h29 h31
          exact val_op rfl (wanted_free rfl) (by clear hdep hsame hsz hdf; simp only [appV]; go_simp) rfl rfl
        | 6, ho =>
          cases ho
          have h32 := hdep 5 _ 32 rfl rfl rfl
          simp only [appV] at h32
          match n, hn, hmay with
          | 0, _, _ => exact val_op rfl (wanted_free rfl) (by clear hdep hsame hsz hdf; simp only [appV, fourW]; go_simp) rfl rfl
          | 1, _, h => cases h
          | 2, _, h => cases h
          | 3, _, h => cases h
          | n + 4, hn, _ => simp at hn
        | 7, ho =>
          cases ho
          have h28 := eval_tmp (hdep 1 _ 28 rfl rfl rfl)
          have h33 := eval_tmp (hdep 6 _ 33 rfl rfl rfl)
          simp only [appV] at h28 h33
          match n, hn, hmay with
          | 1, _, _ => exact val_append rfl (wanted_free rfl) rfl h28 h33 hrun rfl rfl
          | 0, _, h => cases h
          | 2, _, h => cases h
          | 3, _, h => cases h
          | n + 4, hn, _ => simp at hn
        | 8, ho =>
          cases ho
          have h7 := hsame 7 rfl
          exact val_op rfl (wanted_free rfl) (by clear hdep hsame hsz hdf; simp only [appV]; go_simp) rfl rfl
        | 9, ho =>
          cases ho
          have h35 := hdep 8 _ 35 rfl rfl rfl
          have h34 := hdep 7 _ 34 rfl rfl rfl
          simp only [appV] at h35 h34
          match n, hn, hmay with
          | 2, _, _ => exact val_skip rfl (wanted_free rfl) rfl (by clear hdep hsame hsz hdf; simp only [fourW]; go_simp) rfl
          | 0, _, h => cases h
          | 1, _, h => cases h
          | 3, _, h => cases h
          | n + 4, hn, _ => simp at hn
        | n + 10, ho => simp at ho
      case done =>
        simp [filledN, appV, fourW]
        obtain ⟨V, hV⟩ : ∃ V, V = w2.setCell ⟨w.heap.size + 1 + 1, 1, none⟩ (.slice (some ⟨g, 0, none⟩) (ps.length + 1) cap) := ⟨_, rfl⟩
        have v0 : V.cell? ⟨w.heap.size + 1 + 1, 0, none⟩ = some (.slice a bs.length c) := by rw [hV, World.cell?_setCell_other _ _ _ _ (fun hh => by cases hh)]; exact r0
        have v1 : V.cell? ⟨w.heap.size + 1 + 1, 1, none⟩ = some (.slice (some ⟨g, 0, none⟩) (ps.length + 1) cap) := by rw [hV]; exact World.cell?_setCell_same _ _ _ s2
        replace z0 : V.cell? ⟨w.heap.size + 1, 0, none⟩ = some (.slice none 0 0) := by rw [hV]; exact cell_set (by omega) z0
        replace z1 : V.cell? ⟨w.heap.size + 1, 1, none⟩ = some (.slice none 0 0) := by rw [hV]; exact cell_set (by omega) z1
        replace k0 : V.frozen? ⟨w.heap.size + 1, 0, none⟩ = false := by rw [hV, World.frozen?_setCell]; exact k0
        replace k1 : V.frozen? ⟨w.heap.size + 1, 1, none⟩ = false := by rw [hV, World.frozen?_setCell]; exact k1
        have HI2 : Hid (∀ v v', IsP ((V.setCell ⟨w.heap.size + 1, 0, none⟩ v).setCell ⟨w.heap.size + 1, 1, none⟩ v') (some ⟨g, 0, none⟩) cap (ps ++ [(k, y)])) := by
          intro v v'
          rw [hV]
          exact isP_set _ (isP_set _ (isP_set _ HI.out (by omega)) (by omega)) (by omega)
        have hbV : Below w.heap.size w V := by rw [hV]; exact hb'.setCell (p := ⟨w.heap.size + 1 + 1, 1, none⟩) (by show _ ≤ w.heap.size + 1 + 1; omega) _
        rw [← hV]
        clear hV s0 s1 s2 s3 r0 r1 t1 q0 q1 HI hrun
        go_wp2
        refine bodyPost_ret (v := .agg #[.slice a bs.length c, .slice (some ⟨g, 0, none⟩) (ps.length + 1) cap]) (by simp [results, Try.results20, go_sem, z0, z1]) rfl ⟨g, cap, rfl, by rw [← HY.out]; exact HI2.out _ _, ?_⟩
        exact (hbV.setCell (p := ⟨w.heap.size + 1, 0, none⟩) (Nat.le_succ _) _).setCell (p := ⟨w.heap.size + 1, 1, none⟩) (Nat.le_succ _) _

end Go.Proofs.Ytogadbckiaghcaa

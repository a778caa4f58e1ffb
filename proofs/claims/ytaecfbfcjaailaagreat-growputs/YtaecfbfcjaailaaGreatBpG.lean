/-
  Texts laid together: GrowWith GrowRef GrowTreeD GrowRefIn GrowKeepsM.
-/
import Derived.Test.YtaecfbfcjaailaaGreatBpD
import Derived.Test.YtaecfbfcjaailaaGreatBpF
import Derived.Test.YtaecfbfcjaailaaGreatBpC
import Derived.Test.YtaecfbfcjaailaaGreatBpA
import Derived.Maps.RangeWalk
namespace Go.Proofs.YtaecfbfcjaailaaGreat
open Go.RowKit Plain
set_option linter.unusedVariables false
def withRest (put : Bool) (ps : List (ByteArray × ByteArray)) (k v : ByteArray) : List (ByteArray × ByteArray) := if put = true then ps.filter (fun q => decide (q.1 ≠ k)) else withP ps k v
theorem rest_lt {ps : List (ByteArray × ByteArray)} {j : Nat} {p : ByteArray × ByteArray} {k v : ByteArray} (hp : ps[j]? = some p) (h : ltB p.1 k = true) (put : Bool) : withRest put (ps.drop j) k v = p :: withRest put (ps.drop (j + 1)) k v := by
 obtain ⟨hl, e⟩ := List.getElem?_eq_some_iff.1 hp
 rw [List.drop_eq_getElem_cons hl, e]
 cases put with
 | true =>
  unfold withRest
  rw [if_pos rfl, if_pos rfl]
  rw [List.filter_cons, if_pos (by simpa using lt_ne h)]
 | false =>
  unfold withRest
  rw [if_neg (by decide), if_neg (by decide)]
  rw [withP, if_pos h]
theorem rest_ne {ps : List (ByteArray × ByteArray)} {j : Nat} {p : ByteArray × ByteArray} {k v : ByteArray} (hp : ps[j]? = some p) (h : p.1 ≠ k) : withRest true (ps.drop j) k v = p :: withRest true (ps.drop (j + 1)) k v := by
 obtain ⟨hl, e⟩ := List.getElem?_eq_some_iff.1 hp
 rw [List.drop_eq_getElem_cons hl, e]
 unfold withRest
 rw [if_pos rfl, if_pos rfl]
 rw [List.filter_cons, if_pos (by simpa using h)]
theorem rest_eq {ps : List (ByteArray × ByteArray)} {j : Nat} {p : ByteArray × ByteArray} {k v : ByteArray} (hp : ps[j]? = some p) (h : p.1 = k) : withRest true (ps.drop j) k v = withRest true (ps.drop (j + 1)) k v := by
 obtain ⟨hl, e⟩ := List.getElem?_eq_some_iff.1 hp
 rw [List.drop_eq_getElem_cons hl, e]
 unfold withRest
 rw [if_pos rfl, if_pos rfl]
 rw [List.filter_cons, if_neg (by simpa using h)]
theorem rest_put {ps : List (ByteArray × ByteArray)} {j : Nat} {p : ByteArray × ByteArray} {k v : ByteArray} (hp : ps[j]? = some p) (h : ltB p.1 k = false) : withRest false (ps.drop j) k v = (k, v) :: withRest true (ps.drop j) k v := by
 obtain ⟨hl, e⟩ := List.getElem?_eq_some_iff.1 hp
 rw [List.drop_eq_getElem_cons hl, e]
 unfold withRest
 rw [if_pos rfl, if_neg (by decide)]
 rw [withP, if_neg (by rw [h]; decide)]
theorem rest_end (ps : List (ByteArray × ByteArray)) (k v : ByteArray) (put : Bool) : withRest put (ps.drop ps.length) k v = if put = true then [] else [(k, v)] := by
 rw [List.drop_length]
 cases put <;> rfl
theorem owns_none9 (w : World) : (w.alloc (.cells #[] 50)).ownsRow w.heap.size 50 2 (.slice (some ⟨w.heap.size, 0, none⟩) 0 0) 0 (cellsQ []) := World.ownsRow_made w #[] 0 (Nat.le_refl _) (Nat.zero_le _) rfl
theorem withP_few (ps : List (ByteArray × ByteArray)) (k v : ByteArray) : (withP ps k v).length ≤ ps.length + 1 := by
 induction ps with
 | nil => simp [withP]
 | cons p ps ih =>
  rw [withP]
  split
  ·
   simp; omega
  ·
   have := List.length_filter_le (fun q : ByteArray × ByteArray => decide (q.1 ≠ k)) (p :: ps)
   simp only [List.length_cons] at this ⊢
   omega
set_option maxRecDepth 20000 in
set_option maxHeartbeats 4000000 in
theorem refWith_any (a : Option Addr) (c n : Nat) (ps : List (ByteArray × ByteArray)) (key val : ByteArray) (w : World) (hn : n = ps.length) (hQ : IsQ w a c ps) (hm : n ≤ 1000000000) (mk : key.size ≤ maxLen) (mv : val.size ≤ maxLen) :
  Calls Tryz.prog 19 #[.slice a n c, .string key, .string val] w fun e w' => ∃ a' k c', e = .returned (.slice a' k c') ∧ k = (withP ps key val).length ∧ IsQ w' a' c' (withP ps key val) ∧ From w.heap.size a' ∧ Below w.heap.size w w' := by
 have EN : Hid (n = ps.length) := hn
 have RQ : Hid (IsQ w a c ps) := hQ
 have hfew := withP_few ps key val
 have OK : Hid (∀ p ∈ withP ps key val, p.1.size ≤ maxLen ∧ p.2.size ≤ maxLen) := fun p hp => by
  rcases mem_with.1 hp with rfl | ⟨hp, _⟩
  ·
   exact ⟨mk, mv⟩
  ·
   obtain ⟨j, hj⟩ := List.mem_iff_getElem?.1 hp
   obtain ⟨_, _, _, _, _, _, h1, h2⟩ := hQ.2.2 j p hj
   exact ⟨h1, h2⟩
 rw [← hn] at hfew
 obtain ⟨R, hR⟩ : ∃ R, R = withP ps key val := ⟨_, rfl⟩
 have HR : Hid (R = withRest false (ps.drop 0) key val) := by show _ = _; rw [hR]; rfl
 rw [← hR] at hfew OK ⊢
 clear hn hQ hR
 go_enter Tryz.func19, Tryz.ntmps19
 go_wp2
 have hA := (Below.refl w.heap.size w).alloc (Nat.le_refl _) (.cells #[] 50)
 go_loopw [7, 8, 14] (fun ov pv v wr => ∃ (j q g cap : Nat) (put : Bool) (L : List (ByteArray × ByteArray)), j ≤ n ∧ v = .int .i64 j ∧ pv = .bool put ∧ ov = .slice (some ⟨g, 0, none⟩) q cap ∧ (R = L ++ withRest put (ps.drop j) key val ∧ q = L.length) ∧ wr.ownsRow w.heap.size 50 2 (.slice (some ⟨g, 0, none⟩) q cap) q (cellsQ L) ∧ Below w.heap.size w wr) (fun _ _ v _ => n - (intOf v).toNat)
 case atStart => exact ⟨0, 0, w.heap.size, 0, false, [], by omega, rfl, rfl, rfl, ⟨HR.out, rfl⟩, owns_none9 w, hA⟩
 case round =>
  clear hA
  obtain ⟨j, q, g, cap, put, L, hj, rfl, rfl, rfl, hL, hown, HB⟩ := hrel
  have HL : Hid (R = L ++ withRest put (ps.drop j) key val ∧ q = L.length) := hL
  have hq : q ≤ 1000000001 := by have e := congrArg List.length hL.1; rw [List.length_append] at e; omega
  clear hL
  by_cases hlt : j < n
  ·
   have hlt' : (j : Int) < n := by omega
   obtain ⟨⟨k, v⟩, hp⟩ : ∃ x, Hid (ps[j]? = some x) := get_some (by rw [← EN.out]; exact hlt)
   obtain ⟨b, o, rfl, -, hc0, hc1, -, -⟩ := RQ.out.2.2 j (k, v) hp.out
   have z0 := cell_below HB hc0
   have z1 := cell_below HB hc1
   clear hc0 hc1
   have HB1 := Below.tr HB ((Below.refl _ _).alloc (Nat.le_refl _) (.cells #[.string k, .string v] 50))
   have hown1 := hown.alloc (.cells #[.string k, .string v] 50)
   have hown0 := hown
   clear hown HB
   obtain ⟨W1, hW1⟩ : ∃ W1, W1 = wr.alloc (.cells #[.string k, .string v] 50) := ⟨_, rfl⟩
   have hWs : W1.heap.size = wr.heap.size + 1 := by rw [hW1]; simp
   rw [← hW1] at HB1 hown1
   obtain ⟨g2, cap2, U2, hrun2, hown2, hgr2, -, -, -⟩ := push_Q W1 w.heap.size (.slice (some ⟨g, 0, none⟩) q cap) q L (k, v) hown1 (by have := HB1.size; exact this) (by omega)
   have T2 : Turns (fun k => w.heap.size ≤ k) W1 U2 := ((Turns.refl _ _).alloc _).grown hgr2 (fun k hk => (hown1.lt k hk).1)
   have HB2 := Below.turns HB1 T2 (fun k hk => hk)
   have hfin2 : Hid (U2.ownsRow w.heap.size 50 2 (.slice (some ⟨g2, 0, none⟩) (q + 1) cap2) (q + 1) (cellsQ (L ++ [(k, v)])) ∧ Below w.heap.size w U2) := ⟨hown2, HB2⟩
   obtain ⟨g3, cap3, U3, hrun3, hown3, hgr3, -, -, -⟩ := push_Q W1 w.heap.size (.slice (some ⟨g, 0, none⟩) q cap) q L (key, val) hown1 (by have := HB1.size; exact this) (by omega)
   have T3 : Turns (fun k => w.heap.size ≤ k) W1 U3 := ((Turns.refl _ _).alloc _).grown hgr3 (fun k hk => (hown1.lt k hk).1)
   have HB3 := Below.turns HB1 T3 (fun k hk => hk)
   have hfin3 : Hid (U3.ownsRow w.heap.size 50 2 (.slice (some ⟨g3, 0, none⟩) (q + 1) cap3) (q + 1) (cellsQ (L ++ [(key, val)])) ∧ Below w.heap.size w U3) := ⟨hown3, HB3⟩
   have hfin1 : Hid (W1.ownsRow w.heap.size 50 2 (.slice (some ⟨g, 0, none⟩) q cap) q (cellsQ L) ∧ Below w.heap.size w W1) := ⟨hown1, HB1⟩
   have hgb : g < wr.heap.size := by have h1 := hown0.lt g rfl; omega
   have hbx : Hid (U3.cell? ⟨wr.heap.size, 0, none⟩ = some (.string k) ∧ U3.cell? ⟨wr.heap.size, 1, none⟩ = some (.string v)) := by
    obtain ⟨⟨p0, p1⟩, -⟩ := (box2_new wr (.string k) (.string v) 50 rfl).alloc (.cells #[.string key, .string val] 50)
    rw [← hW1] at p0 p1
    exact ⟨hgr3.cell p0 (fun e => by have := Option.some.inj e; simp only at this; omega), hgr3.cell p1 (fun e => by have := Option.some.inj e; simp only at this; omega)⟩
   obtain ⟨g4, cap4, U4, hrun4, hown4, hgr4, -, -, -⟩ := push_Q U3 w.heap.size (.slice (some ⟨g3, 0, none⟩) (q + 1) cap3) (q + 1) (L ++ [(key, val)]) (k, v) hown3 (by have := HB3.size; exact this) (by omega)
   have T4 : Turns (fun k => w.heap.size ≤ k) U3 U4 := ((Turns.refl _ _).alloc _).grown hgr4 (fun k hk => (hown3.lt k hk).1)
   have hfin4 : Hid (U4.ownsRow w.heap.size 50 2 (.slice (some ⟨g4, 0, none⟩) (q + 1 + 1) cap4) (q + 1 + 1) (cellsQ (L ++ [(key, val)] ++ [(k, v)])) ∧ Below w.heap.size w U4) := ⟨hown4, Below.turns HB3 T4 (fun k hk => hk)⟩
   clear hown1 hown2 hown3 hown4 hgr2 hgr3 hgr4 T2 T3 T4 HB1 HB2 HB3 hown0 hgb hWs
   subst hW1
   simp only [World.size_alloc] at hrun2 hrun3
   by_cases he : k = key
   ·
    subst he
    have s1 : Op.bytesLess k.toList k.toList = false := ltB_irrefl k
    have s2 := str_eq_true (rfl : k = k)
    cases put with
    | true =>
     have hN : Hid (R = L ++ withRest true (ps.drop (j + 1)) k val ∧ q = L.length) := ⟨by rw [HL.out.1, rest_eq hp.out rfl], HL.out.2⟩
     go_wp2
     go_roundw
     case rel => exact ⟨j + 1, q, g, cap, true, L, by omega, by go_num, rfl, rfl, hN.out, hfin1.out.1, hfin1.out.2⟩
     case measure => simp [intOf]; omega
    | false =>
     have hN : Hid (R = (L ++ [(k, val)]) ++ withRest true (ps.drop (j + 1)) k val ∧ q + 1 = (L ++ [(k, val)]).length) := ⟨by rw [HL.out.1, rest_put hp.out (ltB_irrefl k), rest_eq hp.out rfl, List.append_assoc]; rfl, by rw [List.length_append, ← HL.out.2]; rfl⟩
     obtain ⟨y0, y1⟩ := hbx.out
     go_wp2_with (at_builtin; refine Lib.wpList_append_run _ rfl _ _ _ _ rfl _ _ rfl rfl _ _ hrun3 ?_)
     go_roundw
     case rel => exact ⟨j + 1, q + 1, g3, cap3, true, L ++ [(k, val)], by omega, by go_num, rfl, rfl, hN.out, hfin3.out.1, hfin3.out.2⟩
     case measure => simp [intOf]; omega
   ·
    have s2 := str_eq_false he
    cases hl : ltB k key with
    | true =>
     have s1 : Op.bytesLess k.toList key.toList = true := hl
     have s3 : Op.bytesLess key.toList k.toList = false := ltB_asymm hl
     have hN : Hid (R = (L ++ [(k, v)]) ++ withRest put (ps.drop (j + 1)) key val ∧ q + 1 = (L ++ [(k, v)]).length) := ⟨by rw [HL.out.1, rest_lt hp.out hl, List.append_assoc]; rfl, by rw [List.length_append, ← HL.out.2]; rfl⟩
     clear hl he
     cases put with
     | true =>
      go_wp2_with (at_builtin; refine Lib.wpList_append_run _ rfl _ _ _ _ rfl _ _ rfl rfl _ _ hrun2 ?_)
      go_roundw
      case rel => exact ⟨j + 1, q + 1, g2, cap2, true, L ++ [(k, v)], by omega, by go_num, rfl, rfl, hN.out, hfin2.out.1, hfin2.out.2⟩
      case measure => simp [intOf]; omega
     | false =>
      go_wp2_with (at_builtin; refine Lib.wpList_append_run _ rfl _ _ _ _ rfl _ _ rfl rfl _ _ hrun2 ?_)
      go_roundw
      case rel => exact ⟨j + 1, q + 1, g2, cap2, false, L ++ [(k, v)], by omega, by go_num, rfl, rfl, hN.out, hfin2.out.1, hfin2.out.2⟩
      case measure => simp [intOf]; omega
    | false =>
     have s1 : Op.bytesLess k.toList key.toList = false := hl
     have s3 : Op.bytesLess key.toList k.toList = true := by
      cases h : Op.bytesLess key.toList k.toList with
      | true => rfl
      | false => exact absurd (ltB_total hl h) he
     cases put with
     | true =>
      have hN : Hid (R = (L ++ [(k, v)]) ++ withRest true (ps.drop (j + 1)) key val ∧ q + 1 = (L ++ [(k, v)]).length) := ⟨by rw [HL.out.1, rest_ne hp.out he, List.append_assoc]; rfl, by rw [List.length_append, ← HL.out.2]; rfl⟩
      clear hl he
      go_wp2_with (at_builtin; refine Lib.wpList_append_run _ rfl _ _ _ _ rfl _ _ rfl rfl _ _ hrun2 ?_)
      go_roundw
      case rel => exact ⟨j + 1, q + 1, g2, cap2, true, L ++ [(k, v)], by omega, by go_num, rfl, rfl, hN.out, hfin2.out.1, hfin2.out.2⟩
      case measure => simp [intOf]; omega
     | false =>
      have hN : Hid (R = (L ++ [(key, val)] ++ [(k, v)]) ++ withRest true (ps.drop (j + 1)) key val ∧ q + 1 + 1 = (L ++ [(key, val)] ++ [(k, v)]).length) := ⟨by rw [HL.out.1, rest_put hp.out hl, rest_ne hp.out he]; simp, by rw [List.length_append, List.length_append, ← HL.out.2]; rfl⟩
      obtain ⟨y0, y1⟩ := hbx.out
      clear hl he
      have tk : True := trivial
      go_wp2_with (first
       | (at_builtin; have _t := tk; refine Lib.wpList_append_run _ rfl _ _ _ _ rfl _ _ rfl rfl _ _ hrun3 ?_; clear tk)
       | (at_builtin; refine Lib.wpList_append_run _ rfl _ _ _ _ rfl _ _ rfl rfl _ _ hrun4 ?_))
      go_roundw
      case rel => exact ⟨j + 1, q + 1 + 1, g4, cap4, true, L ++ [(key, val)] ++ [(k, v)], by omega, by go_num, rfl, rfl, hN.out, hfin4.out.1, hfin4.out.2⟩
      case measure => simp [intOf]; omega
  ·
   obtain rfl : n = j := by omega
   have hj0 : ¬ (n : Int) < n := by omega
   cases put with
   | true =>
    have hR : Hid (R = L) := by show _ = _; rw [HL.out.1, EN.out, rest_end]; simp
    go_wp2
    go_ret
    obtain ⟨a', c', e, hI, hF⟩ := owned_isQ hown HL.out.2 (by rw [← hR.out]; exact OK.out)
    cases e
    exact ⟨_, q, _, rfl, by rw [hR.out]; exact HL.out.2, by rw [hR.out]; exact hI, hF, HB⟩
   | false =>
    have hR : Hid (R = L ++ [(key, val)]) := by show _ = _; rw [HL.out.1, EN.out, rest_end]; simp
    obtain ⟨g2, cap2, U2, hrun2, hown2, hgr2, -, -, -⟩ := push_Q wr w.heap.size (.slice (some ⟨g, 0, none⟩) q cap) q L (key, val) hown (by have := HB.size; exact this) (by omega)
    have T2 : Turns (fun k => w.heap.size ≤ k) wr U2 := ((Turns.refl _ _).alloc _).grown hgr2 (fun k hk => (hown.lt k hk).1)
    have HB2 := Below.turns HB T2 (fun k hk => hk)
    have hfin : Hid (U2.ownsRow w.heap.size 50 2 (.slice (some ⟨g2, 0, none⟩) (q + 1) cap2) (q + 1) (cellsQ (L ++ [(key, val)])) ∧ Below w.heap.size w U2) := ⟨hown2, HB2⟩
    clear hown HB HB2 T2 hown2 hgr2
    go_wp2_with (at_builtin; refine Lib.wpList_append_run _ rfl _ _ _ _ rfl _ _ rfl rfl _ _ hrun2 ?_)
    go_ret
    obtain ⟨a', c', e, hI, hF⟩ := owned_isQ hfin.out.1 (by rw [List.length_append, ← HL.out.2]; rfl) (by rw [← hR.out]; exact OK.out)
    cases e
    exact ⟨_, q + 1, _, rfl, by rw [hR.out, List.length_append, ← HL.out.2]; rfl, by rw [hR.out]; exact hI, hF, hfin.out.2⟩
set_option maxRecDepth 20000 in
set_option maxHeartbeats 4000000 in
theorem likeWood_same (a a' b d d' e : Option Addr) (n n' p c c' f k k' l : Nat) (G : WoodS) (w : World) (h1 : WoodL w a n c a' n' c' b p f G) (h2 : WoodL w d n k d' n' k' e p l G) :
  Calls Tryz.prog 22 #[.agg #[.slice a n c, .slice a' n' c', .slice b p f, .int .i64 G.root, .int .i64 G.gen], .agg #[.slice d n k, .slice d' n' k', .slice e p l, .int .i64 G.root, .int .i64 G.gen]] w fun e w' => e = .returned (.bool true) ∧ Below w.heap.size w w' := by
 obtain ⟨W, hW⟩ : ∃ W, W = (w.alloc (.cells #[.slice a n c, .slice a' n' c', .slice b p f, .int .i64 G.root, .int .i64 G.gen] 27)).alloc (.cells #[.slice d n k, .slice d' n' k', .slice e p l, .int .i64 G.root, .int .i64 G.gen] 27) := ⟨_, rfl⟩
 have B1 : WoodBox W w.heap.size (.slice a n c) (.slice a' n' c') (.slice b p f) (.int .i64 G.root) (.int .i64 G.gen) := by rw [hW]; exact (woodBox_new _ _ _ _ _ _ _ rfl).below ((Below.refl _ _).alloc (Nat.le_refl _) _)
 have B2 : WoodBox W (w.heap.size + 1) (.slice d n k) (.slice d' n' k') (.slice e p l) (.int .i64 G.root) (.int .i64 G.gen) := by rw [hW]; exact woodBox_new _ _ _ _ _ _ _ (by simp)
 have HB : Below w.heap.size w W := by rw [hW]; exact ((Below.refl _ _).alloc (Nat.le_refl _) _).alloc (by simp) _
 have cL : Calls Tryz.prog 34 #[.agg #[.slice a n c, .slice a' n' c'], .agg #[.slice d n k, .slice d' n' k']] W fun x w' => x = .returned (.bool true) ∧ Below W.heap.size W w' := by
  have := allocLike_any a a' d d' c c' k k' n n' n n' G.base G.now G.base G.now W h1.1 h1.2.1 h1.1 h1.2.1 (h1.2.2.2.1.below HB) (h1.2.2.2.2.1.below HB) (h2.2.2.2.1.below HB) (h2.2.2.2.2.1.below HB)
  rw [likeA_same] at this
  exact this
 have EP : Hid (p = G.pages.length) := h1.2.2.1
 have P1 : Hid (IsS w b f G.pages) := h1.2.2.2.2.2
 have P2 : Hid (IsS w e l G.pages) := h2.2.2.2.2.2
 have mp : p ≤ 9223372036854775807 := by rw [h1.2.2.1]; exact Nat.le_trans h1.2.2.2.2.2.1 h1.2.2.2.2.2.2.1
 have rr : ((G.root : Int) != G.root) = false := by simp
 have rg : ((G.gen : Int) != G.gen) = false := by simp
 clear h1 h2
 obtain ⟨x0, x1, x2, x3, x4⟩ := id (hW ▸ B1)
 obtain ⟨y0, y1, y2, y3, y4⟩ := id (hW ▸ B2)
 go_enter Tryz.func22, Tryz.ntmps22
 go_wp2_with (go_at_call 34; rw [← hW]; refine cL.mono ?_; rintro y w1 ⟨rfl, hb⟩; replace B1 := B1.below hb; replace B2 := B2.below hb; replace HB := Below.tr HB hb; clear hb cL x0 x1 x2 x3 x4 y0 y1 y2 y3 y4; obtain ⟨x0, x1, x2, x3, x4⟩ := id B1; obtain ⟨y0, y1, y2, y3, y4⟩ := id B2)
 clear x0 x1 x2 x3 x4 y0 y1 y2 y3 y4
 go_loopw [48] (fun v wr => ∃ j : Nat, j ≤ p ∧ v = .int .i64 j ∧ WoodBox wr w.heap.size (.slice a n c) (.slice a' n' c') (.slice b p f) (.int .i64 G.root) (.int .i64 G.gen) ∧ WoodBox wr (w.heap.size + 1) (.slice d n k) (.slice d' n' k') (.slice e p l) (.int .i64 G.root) (.int .i64 G.gen) ∧ Below w.heap.size w wr) (fun v _ => p - (intOf v).toNat)
 case atStart => exact ⟨0, by omega, rfl, B1, B2, HB⟩
 case round =>
  clear B1 B2 HB
  obtain ⟨j, hj, rfl, B1, B2, HB⟩ := hrel
  by_cases hlt : j < p
  ·
   have hlt' : (j : Int) < p := by omega
   obtain ⟨s, hs⟩ : ∃ x, Hid (G.pages[j]? = some x) := get_some (by rw [← EP.out]; exact hlt)
   obtain ⟨g1, o1, rfl, -, hc0, -⟩ := P1.out.2.2 j s hs.out
   obtain ⟨g2, o2, rfl, -, hc1, -⟩ := P2.out.2.2 j s hs.out
   have z0 := cell_below HB hc0
   have z1 := cell_below HB hc1
   have s0 := str_eq_true (rfl : s = s)
   clear hc0 hc1
   obtain ⟨x0, x1, x2, x3, x4⟩ := id B1
   obtain ⟨y0, y1, y2, y3, y4⟩ := id B2
   go_wp2
   go_region
   go_wp2
   go_roundw
   case rel => exact ⟨j + 1, by omega, by go_num, B1.below (Below.refl _ _).drew, B2.below (Below.refl _ _).drew, HB.drew⟩
   case measure => simp [intOf]; omega
  ·
   obtain rfl : p = j := by omega
   have hj0 : ¬ (p : Int) < p := by omega
   go_wp2
   go_ret
   exact ⟨rfl, HB⟩
set_option maxRecDepth 20000 in
set_option maxHeartbeats 2000000 in
theorem none09_any (a a' b : Option Addr) (c c' f : Nat) (w : World) (h1 : WoodL w a 0 c a' 0 c' b 0 f WoodS.none) :
  Calls Tryz.prog 14 #[.agg #[.slice a 0 c, .slice a' 0 c', .slice b 0 f, .int .i64 0, .int .i64 0]] w fun e w' => e = .returned (.bool true) ∧ Below w.heap.size w w' := by
 have HB : Below w.heap.size w (w.alloc (.cells #[.slice a 0 c, .slice a' 0 c', .slice b 0 f, .int .i64 0, .int .i64 0] 27)) := (Below.refl _ _).alloc (Nat.le_refl _) _
 obtain ⟨x0, x1, x2, x3, x4⟩ := woodBox_new w (.slice a 0 c) (.slice a' 0 c') (.slice b 0 f) (.int .i64 0) (.int .i64 0) 27 rfl
 have cL : ∀ V, WoodL V a 0 c a' 0 c' b 0 f WoodS.none → Calls Tryz.prog 22 #[.agg #[.slice a 0 c, .slice a' 0 c', .slice b 0 f, .int .i64 0, .int .i64 0], .agg #[.slice none 0 0, .slice none 0 0, .slice none 0 0, .int .i64 0, .int .i64 0]] V fun e w' => e = .returned (.bool true) ∧ Below V.heap.size V w' := fun V x => likeWood_same a a' b none none none 0 0 0 c c' f 0 0 0 WoodS.none V x ⟨rfl, rfl, rfl, IsB_nil _, IsB_nil _, isS_nil _⟩
 have h2 := cL _ (h1.below HB)
 clear h1 cL
 go_enter Tryz.func14, Tryz.ntmps14
 go_wp2_with (go_at_call 22; refine h2.mono ?_; rintro y w1 ⟨rfl, hb⟩; replace HB := Below.tr HB hb)
 go_ret
 exact ⟨rfl, HB⟩
def TreeD (V : World) (y : Ending) (w' : World) (t : TreeS) : Prop :=
 ∃ z q d r k, y = .returned (.pointer (some ⟨z, 0, none⟩)) ∧ Box4 w' z (.slice q t.pairs.length d) (.slice r t.blocks.length k) (.int .i64 t.height) (.bool t.bad) ∧ V.heap.size ≤ z ∧ (IsQ w' q d t.pairs ∧ IsI w' r k t.blocks) ∧ Below V.heap.size V w'
theorem TreeC.wide {V : World} {y : Ending} {w' : World} {t : TreeS} (h : TreeC V y w' t) : TreeD V y w' t := by
 obtain ⟨q, d, r, k, h1, h2, h3, h4⟩ := h
 exact ⟨_, q, d, r, k, h1, h2, by omega, h3, h4⟩
theorem WoodL.treeD {V : World} {a : Option Addr} {n c : Nat} {a' : Option Addr} {n' c' : Nat} {b : Option Addr} {p f : Nat} {G : WoodS} (x : WoodL V a n c a' n' c' b p f G) : Calls Tryz.prog 15 #[.agg #[.slice a n c, .slice a' n' c', .slice b p f, .int .i64 G.root, .int .i64 G.gen]] V fun y w' => TreeD V y w' G.tree :=
 x.tree.mono fun y w' h => h.wide
set_option maxRecDepth 20000 in
set_option maxHeartbeats 2000000 in
theorem refIn_any (a : Option Addr) (c n : Nat) (l : List Int) (x : Int) (w : World) (hn : n = l.length) (hI : IsI w a c l) :
  Calls Tryz.prog 28 #[.slice a n c, .int .i64 x] w fun e w' => e = .returned (.bool (decide (x ∈ l))) ∧ Below w.heap.size w w' := by
 have mn : n ≤ 9223372036854775807 := by rw [hn]; exact Nat.le_trans hI.1 hI.2.1
 obtain ⟨r, hr⟩ : ∃ r, r = decide (x ∈ l) := ⟨_, rfl⟩
 rw [← hr]
 have HR : Hid (r = decide (x ∈ l)) := hr
 have EN : Hid (n = l.length) := hn
 have RI : Hid (IsI w a c l) := hI
 clear hr hn hI
 go_enter Tryz.func28, Tryz.ntmps28
 go_wp2
 go_loopw [9] (fun v wr => ∃ j : Nat, j ≤ n ∧ v = .int .i64 j ∧ (∀ i y, i < j → l[i]? = some y → y ≠ x) ∧ Below w.heap.size w wr) (fun v _ => n - (intOf v).toNat)
 case atStart => exact ⟨0, by omega, rfl, fun i q hi => by omega, Below.refl _ _⟩
 case round =>
  obtain ⟨j, hj, rfl, hA, HB⟩ := hrel
  have HA : Hid (∀ i y, i < j → l[i]? = some y → y ≠ x) := hA
  clear hA
  by_cases hlt : j < n
  ·
   have hlt' : (j : Int) < n := by omega
   obtain ⟨y, hp⟩ : ∃ x, Hid (l[j]? = some x) := ⟨_, List.getElem?_eq_getElem (by rw [← EN.out]; exact hlt)⟩
   obtain ⟨b, o, rfl, -, hc0⟩ := RI.out.2.2 j y hp.out
   have z0 := cell_below HB hc0
   clear hc0
   by_cases hk : y = x
   ·
    subst hk
    have hk' : (y == y) = true := by simp
    have hf : r = true := by rw [HR.out]; exact decide_eq_true (List.mem_of_getElem? hp.out)
    subst hf
    go_wp2
    go_ret
    exact ⟨rfl, HB⟩
   ·
    have hk' : (y == x) = false := by simpa using hk
    go_wp2
    go_roundw
    case rel =>
     refine ⟨j + 1, by omega, by go_num, fun i q hi hq => ?_, HB⟩
     by_cases hij : i = j
     ·
      subst hij
      rw [hp.out] at hq
      cases hq
      exact hk
     ·
      exact HA.out i q (by omega) hq
    case measure => simp [intOf]; omega
  ·
   obtain rfl : n = j := by omega
   have hj0 : ¬ (n : Int) < n := by omega
   have hf : r = false := by
    rw [HR.out]
    refine decide_eq_false fun h => ?_
    obtain ⟨i, hi⟩ := List.mem_iff_getElem?.1 h
    exact HA.out i x (by rw [EN.out]; exact (List.getElem?_eq_some_iff.1 hi).1) hi rfl
   subst hf
   go_wp2
   go_ret
   exact ⟨rfl, HB⟩
theorem at_some {l : List Bool} {i : Nat} {y : Bool} (h : l[i]? = some y) : atB l i = y := by unfold atB; rw [h]; rfl
theorem keeps_now {G X : WoodS} {old new : List Int} (K : KeepsG G X old new) {i : Nat} {y z : Bool} (hy : G.now[i]? = some y) (hz : X.now[i]? = some z) : z = ((y && !decide ((i : Int) ∈ old)) || decide ((i : Int) ∈ new)) := by
 have h := K.now (i : Int)
 unfold WoodS.has at h
 rw [Int.toNat_natCast, at_some hy, at_some hz] at h
 have h0 : (0 : Int) ≤ (i : Int) := by omega
 rw [Bool.eq_iff_iff]
 simp only [Bool.or_eq_true, Bool.and_eq_true, Bool.not_eq_true', decide_eq_true_eq, decide_eq_false_iff_not]
 constructor
 ·
  intro hz'
  rcases h.1 ⟨h0, hz'⟩ with ⟨h1, h2⟩ | h1
  ·
   exact .inl ⟨h1.2, h2⟩
  ·
   exact .inr h1
 ·
  rintro (⟨h1, h2⟩ | h1)
  ·
   exact (h.2 (.inl ⟨⟨h0, h1⟩, h2⟩)).2
  ·
   exact (h.2 (.inr h1)).2
theorem keeps_base {G X : WoodS} {old new : List Int} (K : KeepsG G X old new) {i : Nat} (hy : G.base[i]? = some true) {s t : ByteArray} (hs : G.pages[i]? = some s) (ht : X.pages[i]? = some t) : t = s := by
 have h := K.based (i : Int) ⟨by omega, by rw [Int.toNat_natCast, at_some hy]⟩
 rw [Int.toNat_natCast, hs, ht] at h
 exact Option.some.inj h
theorem take_T {P : Program} {ops : Array Oper} {Q : Exit → Act → World → Prop} {md : Region.Mode} {S : World → Prop} (i : Nat) {o : Oper} {post : List Oper} {v : Value} {fuel : Nat} {listed : Array Bool} {a : Act} {w : World}
  (hd : ops.toList.drop i = o :: post) (hb : (Region.noSelect ops && (Region.free md ops listed i && (Region.ready md ops listed).contains i)) = true) (hw : Region.wanted o (yielded ops a.tmps) = true) (hS : S w)
  (hy : ∀ w, S w → (execOp a.eval o).run P w = .ok (.value v) w) (h : wpAnyH P md ops (NoPanic Q) S fuel (listed.setIfInBounds i true) (a.put o.dst v) w) : wpAnyH P md ops (NoPanic Q) S (fuel + 1) listed a w := by
 simp only [Bool.and_eq_true] at hb
 exact take_at hd hb.1 hb.2.1 hb.2.2 (fun _ _ _ h => h) (.inl ⟨hw, hy⟩) hS h
theorem take_U {P : Program} {ops : Array Oper} {Q : Exit → Act → World → Prop} {md : Region.Mode} {S : World → Prop} (i : Nat) {o : Oper} {post : List Oper} {fuel : Nat} {listed : Array Bool} {a : Act} {w : World}
  (hd : ops.toList.drop i = o :: post) (hb : (Region.noSelect ops && (Region.free md ops listed i && (Region.ready md ops listed).contains i)) = true) (hw : Region.wanted o (yielded ops a.tmps) = false) (hS : S w)
  (h : wpAnyH P md ops (NoPanic Q) S fuel (listed.setIfInBounds i true) (a.put o.dst undef) w) : wpAnyH P md ops (NoPanic Q) S (fuel + 1) listed a w := by
 simp only [Bool.and_eq_true] at hb
 exact take_at hd hb.1 hb.2.1 hb.2.2 (fun _ _ _ h => h) (.inr ⟨hw, rfl⟩) hS h
set_option maxRecDepth 20000 in
set_option maxHeartbeats 4000000 in
theorem refKeeps_true (a a' b d d' e : Option Addr) (n c c' f k k' l : Nat) (o q : Option Addr) (mo oc mq qc : Nat) (G X : WoodS) (old new : List Int) (w : World)
  (h1 : WoodL w a n c a' n c' b n f G) (h2 : WoodL w d n k d' n k' e n l X) (hO : IsI w o oc old) (hN : IsI w q qc new) (K : KeepsG G X old new) (hin : ∀ b ∈ new, 0 ≤ b ∧ b < (n : Int)) (ho : mo = old.length) (hq : mq = new.length) :
  Calls Tryz.prog 17 #[.agg #[.slice a n c, .slice a' n c', .slice b n f, .int .i64 G.root, .int .i64 G.gen], .agg #[.slice d n k, .slice d' n k', .slice e n l, .int .i64 X.root, .int .i64 X.gen], .slice o mo oc, .slice q mq qc] w fun e w' => e = .returned (.bool true) ∧ Below w.heap.size w w' := by
 rw [K.gen]
 obtain ⟨W, hW⟩ : ∃ W, W = (w.alloc (.cells #[.slice a n c, .slice a' n c', .slice b n f, .int .i64 G.root, .int .i64 G.gen] 27)).alloc (.cells #[.slice d n k, .slice d' n k', .slice e n l, .int .i64 X.root, .int .i64 G.gen] 27) := ⟨_, rfl⟩
 have B1 : WoodBox W w.heap.size (.slice a n c) (.slice a' n c') (.slice b n f) (.int .i64 G.root) (.int .i64 G.gen) := by rw [hW]; exact (woodBox_new _ _ _ _ _ _ _ rfl).below ((Below.refl _ _).alloc (Nat.le_refl _) _)
 have B2 : WoodBox W (w.heap.size + 1) (.slice d n k) (.slice d' n k') (.slice e n l) (.int .i64 X.root) (.int .i64 G.gen) := by rw [hW]; exact woodBox_new _ _ _ _ _ _ _ (by simp)
 have HB : Below w.heap.size w W := by rw [hW]; exact ((Below.refl _ _).alloc (Nat.le_refl _) _).alloc (by simp) _
 have cOO : ∀ V x, Below w.heap.size w V → Calls Tryz.prog 28 #[.slice o mo oc, .int .i64 x] V fun e w' => e = .returned (.bool (decide (x ∈ old))) ∧ Below V.heap.size V w' := fun V x hV => refIn_any o oc mo old x V ho (hO.below hV)
 have cNN : ∀ V x, Below w.heap.size w V → Calls Tryz.prog 28 #[.slice q mq qc, .int .i64 x] V fun e w' => e = .returned (.bool (decide (x ∈ new))) ∧ Below V.heap.size V w' := fun V x hV => refIn_any q qc mq new x V hq (hN.below hV)
 have mn : n ≤ 9223372036854775807 := by rw [h1.1]; exact Nat.le_trans h1.2.2.2.1.1 h1.2.2.2.1.2.1
 have mm : mq ≤ 9223372036854775807 := by rw [hq]; exact Nat.le_trans hN.1 hN.2.1
 have L1 : Hid (WoodL w a n c a' n c' b n f G) := h1
 have L2 : Hid (WoodL w d n k d' n k' e n l X) := h2
 have EQ : Hid (mq = new.length) := hq
 have RN : Hid (IsI w q qc new) := hN
 have KK : Hid (KeepsG G X old new ∧ ∀ b ∈ new, 0 ≤ b ∧ b < (n : Int)) := ⟨K, hin⟩
 have rg : ((G.gen : Int) != G.gen) = false := by simp
 clear h1 h2 hO hN K hin ho hq
 obtain ⟨x0, x1, x2, x3, x4⟩ := id (hW ▸ B1)
 obtain ⟨y0, y1, y2, y3, y4⟩ := id (hW ▸ B2)
 go_enter Tryz.func17, Tryz.ntmps17
 go_wp2
 rw [← hW]
 clear x0 x1 x2 x3 x4 y0 y1 y2 y3 y4
 go_loopw [55] (fun v wr => ∃ j : Nat, j ≤ n ∧ v = .int .i64 j ∧ WoodBox wr w.heap.size (.slice a n c) (.slice a' n c') (.slice b n f) (.int .i64 G.root) (.int .i64 G.gen) ∧ WoodBox wr (w.heap.size + 1) (.slice d n k) (.slice d' n k') (.slice e n l) (.int .i64 X.root) (.int .i64 G.gen) ∧ Below w.heap.size w wr) (fun v _ => n - (intOf v).toNat)
 case atStart => exact ⟨0, by omega, rfl, B1, B2, HB⟩
 case round =>
  clear B1 B2 HB hW
  obtain ⟨j, hj, rfl, B1, B2, HB⟩ := hrel
  by_cases hlt : j < n
  ·
   have hlt' : (j : Int) < n := by omega
   obtain ⟨x, hx⟩ : ∃ x, Hid (G.base[j]? = some x) := get_some (by rw [← L1.out.1]; exact hlt)
   obtain ⟨y, hy⟩ : ∃ x, Hid (G.now[j]? = some x) := get_some (by rw [← L1.out.2.1]; exact hlt)
   obtain ⟨s, hs⟩ : ∃ x, Hid (G.pages[j]? = some x) := get_some (by rw [← L1.out.2.2.1]; exact hlt)
   have hx' : Hid (X.base[j]? = some x) := by show _ = _; rw [KK.out.1.base]; exact hx.out
   obtain ⟨z, hz⟩ : ∃ x, Hid (X.now[j]? = some x) := get_some (by rw [← L2.out.2.1]; exact hlt)
   obtain ⟨t, ht⟩ : ∃ x, Hid (X.pages[j]? = some x) := get_some (by rw [← L2.out.2.2.1]; exact hlt)
   have hzy : Hid (z = ((y && !decide ((j : Int) ∈ old)) || decide ((j : Int) ∈ new))) := keeps_now KK.out.1 hy.out hz.out
   obtain ⟨g1, o1, rfl, -, hc1⟩ := L1.out.2.2.2.1.2.2 j x hx.out
   obtain ⟨g2, o2, rfl, -, hc2⟩ := L2.out.2.2.2.1.2.2 j x hx'.out
   obtain ⟨g3, o3, rfl, -, hc3⟩ := L1.out.2.2.2.2.1.2.2 j y hy.out
   obtain ⟨g4, o4, rfl, -, hc4⟩ := L2.out.2.2.2.2.1.2.2 j z hz.out
   obtain ⟨g5, o5, rfl, -, hc5, -⟩ := L1.out.2.2.2.2.2.2.2 j s hs.out
   obtain ⟨g6, o6, rfl, -, hc6, -⟩ := L2.out.2.2.2.2.2.2.2 j t ht.out
   have z1 := cell_below HB hc1
   have z2 := cell_below HB hc2
   have z3 := cell_below HB hc3
   have z4 := cell_below HB hc4
   have z5 := cell_below HB hc5
   have z6 := cell_below HB hc6
   have rx : (x != x) = false := by simp
   clear hc1 hc2 hc3 hc4 hc5 hc6
   obtain ⟨nw, hnw⟩ : ∃ nw, Hid (nw = decide ((j : Int) ∈ new)) := ⟨_, rfl⟩
   obtain ⟨od, hod⟩ : ∃ od, Hid (od = decide ((j : Int) ∈ old)) := ⟨_, rfl⟩
   have cN := fun V hV => cNN V (j : Int) hV
   have cO := fun V hV => cOO V (j : Int) hV
   rw [← hnw.out] at cN
   rw [← hod.out] at cO
   have hz2 := hzy.out
   rw [← hnw.out, ← hod.out] at hz2
   have hnn : (nw != nw) = false := by simp
   obtain ⟨x0, x1, x2, x3, x4⟩ := id B1
   obtain ⟨y0, y1, y2, y3, y4⟩ := id B2
   have hpg : x = false ∨ (x = true ∧ (t.toList == s.toList) = true) := by
    cases hxx : x with
    | false => exact .inl rfl
    | true => subst hxx; exact .inr ⟨rfl, str_eq_true (keeps_base KK.out.1 hx.out hs.out ht.out)⟩
   clear hnw hod hzy
   rcases hpg with rfl | ⟨rfl, s0⟩
   all_goals
    go_wp2
    go_quiet (fail)
    go_wp2
    have HQ := drewN_below (k := wr.heap.size) wr nq
    have HBq : Below w.heap.size w (wr.drewN nq) := Below.tr HB HQ
    replace B1 := B1.below HQ
    replace B2 := B2.below HQ
    replace z3 := cell_below HQ z3
    replace z4 := cell_below HQ z4
    generalize wr.drewN nq = V0 at *
    clear x0 x1 x2 x3 x4 y0 y1 y2 y3 y4 HB HQ z1 z2 z5 z6
    have hD := (Below.refl V0.heap.size V0).drew
    replace B1 := B1.below hD
    replace B2 := B2.below hD
    replace HBq := Below.tr HBq hD
    replace z3 := cell_below hD z3
    replace z4 := cell_below hD z4
    clear hD
    obtain ⟨S, hS⟩ : ∃ S : World → Prop, S = fun V => (V.cell? ⟨w.heap.size + 1, 1, none⟩ = some (.slice (some ⟨g4, o4, none⟩) n k') ∧ V.cell? ⟨g4, o4 + j, none⟩ = some (.bool z)) ∧ V.cell? ⟨w.heap.size, 1, none⟩ = some (.slice (some ⟨g3, o3, none⟩) n c') ∧ V.cell? ⟨g3, o3 + j, none⟩ = some (.bool y) := ⟨_, rfl⟩
    have hS0 : S V0.drew := by rw [hS]; exact ⟨⟨B2.2.1, z4⟩, B1.2.1, z3⟩
    refine wp_region_noPanic ?_
    refine wp_region_held_drew (S := S) (by kernel_rfl) hS0 (fun hHeld => ?_)
    clear hS0
    generalize V0.drew = V1 at *
    rcases y with _ | _ <;> rcases od with _ | _
    all_goals
     subst hS
     simp only [Bool.false_and, Bool.true_and, Bool.not_true, Bool.not_false, Bool.false_or, Bool.true_or] at hz2
     subst hz2
     (first | (refine take_T 0 (v := ?_) rfl (by kernel_rfl) (by rfl) hHeld ?_ ?_; rotate_left 1; · (intro w hSw; (try dsimp only at hSw); go_simp; (try with_reducible rfl))) | refine take_U 0 rfl (by kernel_rfl) (by rfl) hHeld ?_); try go_frame
     (first | (refine take_T 1 (v := ?_) rfl (by kernel_rfl) (by rfl) hHeld ?_ ?_; rotate_left 1; · (intro w hSw; (try dsimp only at hSw); go_simp; (try with_reducible rfl))) | refine take_U 1 rfl (by kernel_rfl) (by rfl) hHeld ?_); try go_frame
     (first | (refine take_T 2 (v := ?_) rfl (by kernel_rfl) (by rfl) hHeld ?_ ?_; rotate_left 1; · (intro w hSw; (try dsimp only at hSw); go_simp; (try with_reducible rfl))) | refine take_U 2 rfl (by kernel_rfl) (by rfl) hHeld ?_); try go_frame
     (first | (refine take_T 3 (v := ?_) rfl (by kernel_rfl) (by rfl) hHeld ?_ ?_; rotate_left 1; · (intro w hSw; (try dsimp only at hSw); go_simp; (try with_reducible rfl))) | refine take_U 3 rfl (by kernel_rfl) (by rfl) hHeld ?_); try go_frame
     (first | (refine take_T 4 (v := ?_) rfl (by kernel_rfl) (by rfl) hHeld ?_ ?_; rotate_left 1; · (intro w hSw; (try dsimp only at hSw); go_simp; (try with_reducible rfl))) | refine take_U 4 rfl (by kernel_rfl) (by rfl) hHeld ?_); try go_frame
     (first | (refine take_T 5 (v := ?_) rfl (by kernel_rfl) (by rfl) hHeld ?_ ?_; rotate_left 1; · (intro w hSw; (try dsimp only at hSw); go_simp; (try with_reducible rfl))) | refine take_U 5 rfl (by kernel_rfl) (by rfl) hHeld ?_); try go_frame
     (first | (refine take_T 6 (v := ?_) rfl (by kernel_rfl) (by rfl) hHeld ?_ ?_; rotate_left 1; · (intro w hSw; (try dsimp only at hSw); go_simp; (try with_reducible rfl))) | refine take_U 6 rfl (by kernel_rfl) (by rfl) hHeld ?_); try go_frame
     (first | (refine take_T 7 (v := ?_) rfl (by kernel_rfl) (by rfl) hHeld ?_ ?_; rotate_left 1; · (intro w hSw; (try dsimp only at hSw); go_simp; (try with_reducible rfl))) | refine take_U 7 rfl (by kernel_rfl) (by rfl) hHeld ?_); try go_frame
     (first | (refine take_T 8 (v := ?_) rfl (by kernel_rfl) (by rfl) hHeld ?_ ?_; rotate_left 1; · (intro w hSw; (try dsimp only at hSw); go_simp; (try with_reducible rfl))) | refine take_U 8 rfl (by kernel_rfl) (by rfl) hHeld ?_); try go_frame
     (first | (refine take_T 9 (v := ?_) rfl (by kernel_rfl) (by rfl) hHeld ?_ ?_; rotate_left 1; · (intro w hSw; (try dsimp only at hSw); go_simp; (try with_reducible rfl))) | refine take_U 9 rfl (by kernel_rfl) (by rfl) hHeld ?_); try go_frame
     (first | (refine take_T 10 (v := ?_) rfl (by kernel_rfl) (by rfl) hHeld ?_ ?_; rotate_left 1; · (intro w hSw; (try dsimp only at hSw); go_simp; (try with_reducible rfl))) | refine take_U 10 rfl (by kernel_rfl) (by rfl) hHeld ?_); try go_frame
     (first | (refine take_T 11 (v := ?_) rfl (by kernel_rfl) (by rfl) hHeld ?_ ?_; rotate_left 1; · (intro w hSw; (try dsimp only at hSw); go_simp; (try with_reducible rfl))) | refine take_U 11 rfl (by kernel_rfl) (by rfl) hHeld ?_); try go_frame
     (first | (refine take_T 12 (v := ?_) rfl (by kernel_rfl) (by rfl) hHeld ?_ ?_; rotate_left 1; · (intro w hSw; (try dsimp only at hSw); go_simp; (try with_reducible rfl))) | refine take_U 12 rfl (by kernel_rfl) (by rfl) hHeld ?_); try go_frame
     (first | (refine take_T 13 (v := ?_) rfl (by kernel_rfl) (by rfl) hHeld ?_ ?_; rotate_left 1; · (intro w hSw; (try dsimp only at hSw); go_simp; (try with_reducible rfl))) | refine take_U 13 rfl (by kernel_rfl) (by rfl) hHeld ?_); try go_frame
     (first | (refine take_T 14 (v := ?_) rfl (by kernel_rfl) (by rfl) hHeld ?_ ?_; rotate_left 1; · (intro w hSw; (try dsimp only at hSw); go_simp; (try with_reducible rfl))) | refine take_U 14 rfl (by kernel_rfl) (by rfl) hHeld ?_); try go_frame
     (first
      | (refine take_U 15 rfl (by kernel_rfl) (by rfl) hHeld ?_; try go_frame)
      | (refine wpAnyH_ready (rs := [15]) (by kernel_rfl) (by simp) ?_; refine cons_at (i := 15) rfl (fun K hK => ?_) AllReadyH.nil; go_simp; go_at_call 28; refine (cO _ HBq).mono ?_; rintro e' v1 ⟨rfl, hb⟩; replace B1 := B1.below hb; replace B2 := B2.below hb; replace z3 := cell_below hb z3; replace z4 := cell_below hb z4; replace HBq := Below.tr HBq hb; clear hb hHeld; refine hK.out _ _ ⟨⟨B2.2.1, z4⟩, B1.2.1, z3⟩ (fun hHeld => ?_); clear hK K))
     (first | (refine take_T 16 (v := ?_) rfl (by kernel_rfl) (by rfl) hHeld ?_ ?_; rotate_left 1; · (intro w hSw; (try dsimp only at hSw); go_simp; (try with_reducible rfl))) | refine take_U 16 rfl (by kernel_rfl) (by rfl) hHeld ?_); try go_frame
     (first | (refine take_T 17 (v := ?_) rfl (by kernel_rfl) (by rfl) hHeld ?_ ?_; rotate_left 1; · (intro w hSw; (try dsimp only at hSw); go_simp; (try with_reducible rfl))) | refine take_U 17 rfl (by kernel_rfl) (by rfl) hHeld ?_); try go_frame
     (first | (refine take_T 18 (v := ?_) rfl (by kernel_rfl) (by rfl) hHeld ?_ ?_; rotate_left 1; · (intro w hSw; (try dsimp only at hSw); go_simp; (try with_reducible rfl))) | refine take_U 18 rfl (by kernel_rfl) (by rfl) hHeld ?_); try go_frame
     (first | (refine take_T 19 (v := ?_) rfl (by kernel_rfl) (by rfl) hHeld ?_ ?_; rotate_left 1; · (intro w hSw; (try dsimp only at hSw); go_simp; (try with_reducible rfl))) | refine take_U 19 rfl (by kernel_rfl) (by rfl) hHeld ?_); try go_frame
     (first | (refine take_T 20 (v := ?_) rfl (by kernel_rfl) (by rfl) hHeld ?_ ?_; rotate_left 1; · (intro w hSw; (try dsimp only at hSw); go_simp; (try with_reducible rfl))) | refine take_U 20 rfl (by kernel_rfl) (by rfl) hHeld ?_); try go_frame
     (first
      | (refine take_U 21 rfl (by kernel_rfl) (by rfl) hHeld ?_; try go_frame)
      | (refine wpAnyH_ready (rs := [21]) (by kernel_rfl) (by simp) ?_; refine cons_at (i := 21) rfl (fun K hK => ?_) AllReadyH.nil; go_simp; go_at_call 28; refine (cN _ HBq).mono ?_; rintro e' v2 ⟨rfl, hb⟩; replace B1 := B1.below hb; replace B2 := B2.below hb; replace z3 := cell_below hb z3; replace z4 := cell_below hb z4; replace HBq := Below.tr HBq hb; clear hb hHeld; refine hK.out _ _ ⟨⟨B2.2.1, z4⟩, B1.2.1, z3⟩ (fun hHeld => ?_); clear hK K))
     (first | (refine take_T 22 (v := ?_) rfl (by kernel_rfl) (by rfl) hHeld ?_ ?_; rotate_left 1; · (intro w hSw; (try dsimp only at hSw); go_simp; (try with_reducible rfl))) | refine take_U 22 rfl (by kernel_rfl) (by rfl) hHeld ?_); try go_frame
     (first | (refine take_T 23 (v := ?_) rfl (by kernel_rfl) (by rfl) hHeld ?_ ?_; rotate_left 1; · (intro w hSw; (try dsimp only at hSw); go_simp; (try with_reducible rfl))) | refine take_U 23 rfl (by kernel_rfl) (by rfl) hHeld ?_); try go_frame
     refine wpAnyH_done (by kernel_rfl) ?_ _
     refine NoPanic.normal ?_
     go_wp2
     go_roundw
     case rel => exact ⟨j + 1, by omega, by go_num, B1, B2, HBq⟩
     case measure => simp [intOf]; omega
  ·
   obtain rfl : n = j := by omega
   have hj0 : ¬ (n : Int) < n := by omega
   obtain ⟨x0, x1, x2, x3, x4⟩ := id B1
   obtain ⟨y0, y1, y2, y3, y4⟩ := id B2
   go_wp2
   clear x0 x1 x2 x3 x4 y0 y1 y2 y3 y4
   go_loopw [119] (fun v wr => ∃ j : Nat, j ≤ mq ∧ v = .int .i64 j ∧ WoodBox wr w.heap.size (.slice a n c) (.slice a' n c') (.slice b n f) (.int .i64 G.root) (.int .i64 G.gen) ∧ WoodBox wr (w.heap.size + 1) (.slice d n k) (.slice d' n k') (.slice e n l) (.int .i64 X.root) (.int .i64 G.gen) ∧ Below w.heap.size w wr) (fun v _ => mq - (intOf v).toNat)
   case atStart => exact ⟨0, by omega, rfl, B1, B2, HB⟩
   case round =>
    clear B1 B2 HB hj hj0 hlt
    obtain ⟨j, hj, rfl, B1, B2, HB⟩ := hrel
    by_cases hlt : j < mq
    ·
     have hlt' : (j : Int) < mq := by omega
     obtain ⟨x, hx⟩ : ∃ x, Hid (new[j]? = some x) := get_some (by rw [← EQ.out]; exact hlt)
     obtain ⟨gq, oq, rfl, -, hcq⟩ := RN.out.2.2 j x hx.out
     have zq := cell_below HB hcq
     have hmem : Hid (x ∈ new) := List.mem_of_getElem? hx.out
     have hxn := KK.out.2 x hmem.out
     obtain ⟨i, rfl⟩ : ∃ i : Nat, x = i := ⟨x.toNat, by omega⟩
     have hi : i < n := by omega
     have hi' : (i : Int) < n := by omega
     obtain ⟨s, hs⟩ : ∃ x, Hid (G.pages[i]? = some x) := get_some (by rw [← L1.out.2.2.1]; exact hi)
     obtain ⟨t, ht⟩ : ∃ x, Hid (X.pages[i]? = some x) := get_some (by rw [← L2.out.2.2.1]; exact hi)
     obtain ⟨g5, o5, rfl, -, hc5, -⟩ := L1.out.2.2.2.2.2.2.2 i s hs.out
     obtain ⟨g6, o6, rfl, -, hc6, mt⟩ := L2.out.2.2.2.2.2.2.2 i t ht.out
     have z5 := cell_below HB hc5
     have z6 := cell_below HB hc6
     have hg : Hid ((decide ((i : Int) ∈ old) = true ∧ t = s) ∨ (readE t = 0 ∧ readG t = G.gen)) := by
      rcases KK.out.1.gens i hmem.out with ⟨h1, h2⟩ | ⟨u, h1, h2, h3⟩
      ·
       left
       rw [Int.toNat_natCast, hs.out, ht.out] at h2
       exact ⟨decide_eq_true h1, Option.some.inj h2⟩
      ·
       right
       rw [Int.toNat_natCast, ht.out] at h1
       cases h1
       exact ⟨h2, by rw [h3, KK.out.1.gen]⟩
     have cP := fun V => refPageGet_any t V mt
     obtain ⟨rE, hE⟩ : ∃ r, Hid (r = readE t) := ⟨_, rfl⟩
     obtain ⟨rK, hK'⟩ : ∃ r, Hid (r = readK t) := ⟨_, rfl⟩
     obtain ⟨rG, hG'⟩ : ∃ r, Hid (r = readG t) := ⟨_, rfl⟩
     obtain ⟨rB, hB'⟩ : ∃ r, Hid (r = readB t) := ⟨_, rfl⟩
     rw [← hE.out, ← hK'.out, ← hG'.out, ← hB'.out] at cP
     obtain ⟨od, hod⟩ : ∃ od, Hid (od = decide ((i : Int) ∈ old)) := ⟨_, rfl⟩
     have cO := fun V hV => cOO V (i : Int) hV
     rw [← hod.out] at cO
     have hg2 : (od = true ∧ (t.toList == s.toList) = true) ∨ (od = true ∧ (t.toList == s.toList) = false ∧ (rE != 0) = false ∧ (rG != G.gen) = false) ∨ (od = false ∧ (rE != 0) = false ∧ (rG != G.gen) = false) := by
      have hg2 := hg.out
      rw [← hod.out, ← hE.out, ← hG'.out] at hg2
      have hq : (rE = 0 ∧ rG = G.gen) → (rE != 0) = false ∧ (rG != G.gen) = false := fun h => by rw [h.1, h.2]; simp
      by_cases hts : t = s
      ·
       cases od with
       | true => exact .inl ⟨rfl, str_eq_true hts⟩
       | false => exact .inr (.inr ⟨rfl, hq (hg2.resolve_left (fun h => by cases h.1))⟩)
      ·
       have h3 := hq (hg2.resolve_left (fun h => hts h.2))
       cases od with
       | true => exact .inr (.inl ⟨rfl, str_eq_false hts, h3⟩)
       | false => exact .inr (.inr ⟨rfl, h3⟩)
     clear hcq hc5 hc6 hxn hg hod hE hK' hG' hB'
     obtain ⟨x0, x1, x2, x3, x4⟩ := id B1
     obtain ⟨y0, y1, y2, y3, y4⟩ := id B2
     rcases hg2 with ⟨rfl, s0⟩ | ⟨rfl, s0, s1, s2⟩ | ⟨rfl, s1, s2⟩
     all_goals
      go_wp2_with (go_at_call 29; refine (cP _).mono ?_; rintro y w1 ⟨rfl, hb⟩; have hA : Below w1.heap.size w1 (w1.alloc (.cells #[.int .i64 rK, .int .i64 rG, .string rB] 63)) := (Below.refl _ _).alloc (Nat.le_refl _) _; have b3 := box3_new w1 (.int .i64 rK) (.int .i64 rG) (.string rB) 63; replace hb := Below.tr hb hA; replace B1 := B1.below hb; replace B2 := B2.below hb; replace HB := Below.tr HB hb; replace z5 := cell_below hb z5; replace z6 := cell_below hb z6; clear x0 x1 x2 x3 x4 y0 y1 y2 y3 y4 zq hA hb; obtain ⟨x0, x1, x2, x3, x4⟩ := id B1; obtain ⟨y0, y1, y2, y3, y4⟩ := id B2; obtain ⟨⟨p0, p1, p2⟩, -⟩ := id b3)
      generalize w1.heap.size = h3 at *
      generalize w1.alloc (.cells #[.int .i64 rK, .int .i64 rG, .string rB] 63) = V0 at *
      clear x0 x1 x2 x3 x4 y0 y1 y2 y3 y4 p0 p1 p2
      have hD := (Below.refl V0.heap.size V0).drew
      replace B1 := B1.below hD
      replace B2 := B2.below hD
      replace b3 := b3.below hD
      replace HB := HB.drew
      replace z5 := cell_below hD z5
      replace z6 := cell_below hD z6
      clear hD
      refine wp_region_noPanic ?_
      refine wp_region_held_drew (S := fun V => (V.cell? ⟨w.heap.size + 1, 2, none⟩ = some (.slice (some ⟨g6, o6, none⟩) n l) ∧ V.cell? ⟨g6, o6 + i, none⟩ = some (.string t)) ∧ V.cell? ⟨w.heap.size, 2, none⟩ = some (.slice (some ⟨g5, o5, none⟩) n f) ∧ V.cell? ⟨g5, o5 + i, none⟩ = some (.string s)) (by kernel_rfl) ⟨⟨B2.2.2.1, z6⟩, B1.2.2.1, z5⟩ (fun hHeld => ?_)
      generalize V0.drew = V1 at *
      (first | (refine take_T 0 (v := ?_) rfl (by kernel_rfl) (by rfl) hHeld ?_ ?_; rotate_left 1; · (intro w hSw; (try dsimp only at hSw); go_simp; (try with_reducible rfl))) | refine take_U 0 rfl (by kernel_rfl) (by rfl) hHeld ?_); try go_frame
      (first | (refine take_T 1 (v := ?_) rfl (by kernel_rfl) (by rfl) hHeld ?_ ?_; rotate_left 1; · (intro w hSw; (try dsimp only at hSw); go_simp; (try with_reducible rfl))) | refine take_U 1 rfl (by kernel_rfl) (by rfl) hHeld ?_); try go_frame
      refine wpAnyH_ready (rs := [2]) (by kernel_rfl) (by simp) ?_
      refine cons_at (i := 2) rfl (fun K hK => ?_) AllReadyH.nil
      go_simp
      go_at_call 28
      refine (cO _ HB).mono ?_
      rintro e' v1 ⟨rfl, hb⟩
      replace B1 := B1.below hb
      replace B2 := B2.below hb
      replace b3 := b3.below hb
      replace z5 := cell_below hb z5
      replace z6 := cell_below hb z6
      replace HB := Below.tr HB hb
      clear hb hHeld
      refine hK.out _ _ ⟨⟨B2.2.2.1, z6⟩, B1.2.2.1, z5⟩ (fun hHeld => ?_)
      clear hK K
      (first | (refine take_T 3 (v := ?_) rfl (by kernel_rfl) (by rfl) hHeld ?_ ?_; rotate_left 1; · (intro w hSw; (try dsimp only at hSw); go_simp; (try with_reducible rfl))) | refine take_U 3 rfl (by kernel_rfl) (by rfl) hHeld ?_); try go_frame
      (first | (refine take_T 4 (v := ?_) rfl (by kernel_rfl) (by rfl) hHeld ?_ ?_; rotate_left 1; · (intro w hSw; (try dsimp only at hSw); go_simp; (try with_reducible rfl))) | refine take_U 4 rfl (by kernel_rfl) (by rfl) hHeld ?_); try go_frame
      (first | (refine take_T 5 (v := ?_) rfl (by kernel_rfl) (by rfl) hHeld ?_ ?_; rotate_left 1; · (intro w hSw; (try dsimp only at hSw); go_simp; (try with_reducible rfl))) | refine take_U 5 rfl (by kernel_rfl) (by rfl) hHeld ?_); try go_frame
      (first | (refine take_T 6 (v := ?_) rfl (by kernel_rfl) (by rfl) hHeld ?_ ?_; rotate_left 1; · (intro w hSw; (try dsimp only at hSw); go_simp; (try with_reducible rfl))) | refine take_U 6 rfl (by kernel_rfl) (by rfl) hHeld ?_); try go_frame
      (first | (refine take_T 7 (v := ?_) rfl (by kernel_rfl) (by rfl) hHeld ?_ ?_; rotate_left 1; · (intro w hSw; (try dsimp only at hSw); go_simp; (try with_reducible rfl))) | refine take_U 7 rfl (by kernel_rfl) (by rfl) hHeld ?_); try go_frame
      (first | (refine take_T 8 (v := ?_) rfl (by kernel_rfl) (by rfl) hHeld ?_ ?_; rotate_left 1; · (intro w hSw; (try dsimp only at hSw); go_simp; (try with_reducible rfl))) | refine take_U 8 rfl (by kernel_rfl) (by rfl) hHeld ?_); try go_frame
      (first | (refine take_T 9 (v := ?_) rfl (by kernel_rfl) (by rfl) hHeld ?_ ?_; rotate_left 1; · (intro w hSw; (try dsimp only at hSw); go_simp; (try with_reducible rfl))) | refine take_U 9 rfl (by kernel_rfl) (by rfl) hHeld ?_); try go_frame
      (first | (refine take_T 10 (v := ?_) rfl (by kernel_rfl) (by rfl) hHeld ?_ ?_; rotate_left 1; · (intro w hSw; (try dsimp only at hSw); go_simp; (try with_reducible rfl))) | refine take_U 10 rfl (by kernel_rfl) (by rfl) hHeld ?_); try go_frame
      (first | (refine take_T 11 (v := ?_) rfl (by kernel_rfl) (by rfl) hHeld ?_ ?_; rotate_left 1; · (intro w hSw; (try dsimp only at hSw); go_simp; (try with_reducible rfl))) | refine take_U 11 rfl (by kernel_rfl) (by rfl) hHeld ?_); try go_frame
      (first | (refine take_T 12 (v := ?_) rfl (by kernel_rfl) (by rfl) hHeld ?_ ?_; rotate_left 1; · (intro w hSw; (try dsimp only at hSw); go_simp; (try with_reducible rfl))) | refine take_U 12 rfl (by kernel_rfl) (by rfl) hHeld ?_); try go_frame
      (first | (refine take_T 13 (v := ?_) rfl (by kernel_rfl) (by rfl) hHeld ?_ ?_; rotate_left 1; · (intro w hSw; (try dsimp only at hSw); go_simp; (try with_reducible rfl))) | refine take_U 13 rfl (by kernel_rfl) (by rfl) hHeld ?_); try go_frame
      (first | (refine take_T 14 (v := ?_) rfl (by kernel_rfl) (by rfl) hHeld ?_ ?_; rotate_left 1; · (intro w hSw; (try dsimp only at hSw); go_simp; (try with_reducible rfl))) | refine take_U 14 rfl (by kernel_rfl) (by rfl) hHeld ?_); try go_frame
      (first | (refine take_T 15 (v := ?_) rfl (by kernel_rfl) (by rfl) hHeld ?_ ?_; rotate_left 1; · (intro w hSw; (try dsimp only at hSw); go_simp; (try with_reducible rfl))) | refine take_U 15 rfl (by kernel_rfl) (by rfl) hHeld ?_); try go_frame
      (first | (refine take_T 16 (v := ?_) rfl (by kernel_rfl) (by rfl) hHeld ?_ ?_; rotate_left 1; · (intro w hSw; (try dsimp only at hSw); go_simp; (try with_reducible rfl))) | refine take_U 16 rfl (by kernel_rfl) (by rfl) hHeld ?_); try go_frame
      refine wpAnyH_done (by kernel_rfl) ?_ _
      refine NoPanic.normal ?_
      obtain ⟨x0, x1, x2, x3, x4⟩ := id B1
      obtain ⟨⟨p0, p1, p2⟩, -⟩ := id b3
      go_wp2
      go_roundw
      case rel => exact ⟨j + 1, by omega, by go_num, B1, B2, HB⟩
      case measure => simp [intOf]; omega
    ·
     obtain rfl : mq = j := by omega
     have hj0 : ¬ (mq : Int) < mq := by omega
     go_wp2
     go_ret
     exact ⟨rfl, HB⟩
end Go.Proofs.YtaecfbfcjaailaaGreat

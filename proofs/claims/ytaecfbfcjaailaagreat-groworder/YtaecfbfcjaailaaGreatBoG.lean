/-
  Texts laid together: GrowOk GrowOnly GrowAfter GrowWith GrowOpen GrowTreeD.
-/
import Derived.Test.YtaecfbfcjaailaaGreatBoF
import Derived.Test.YtaecfbfcjaailaaGreatBoD
import Derived.Test.YtaecfbfcjaailaaGreatBoC
import Derived.Test.YtaecfbfcjaailaaGreatBoA
import Derived.Lib.SmallJoins
import Derived.Deep.SlicePairs
namespace Go.Proofs.YtaecfbfcjaailaaGreat
open Go.RowKit Plain
set_option linter.unusedVariables false
set_option maxRecDepth 20000 in
set_option maxHeartbeats 2000000 in
theorem okTold_any (E : Int) (g1 g2 : Nat) (k1 v1 k2 v2 : ByteArray) (w : World) (b1 : Box2 w g1 (.string k1) (.string v1)) (b2 : Box2 w g2 (.string k2) (.string v2)) (m1 : k1.size ≤ maxLen) (m2 : v1.size ≤ maxLen) (m3 : k2.size ≤ maxLen) (m4 : v2.size ≤ maxLen) (h : E = 0 ∨ E = 60 ∨ (E = 1 ∧ (isPairB k1 v1 && isPairB k2 v2) = false)) :
  Calls Tryz.prog 24 #[.int .i64 E, .pointer (some ⟨g1, 0, none⟩), .pointer (some ⟨g2, 0, none⟩)] w fun e w' => e = .returned (.bool true) ∧ Below w.heap.size w w' := by
 have HB : Below w.heap.size w w := Below.refl _ _
 have c1 : ∀ V, Calls Tryz.prog 13 #[.string k1, .string v1] V fun e w' => e = .returned (.bool (isPairB k1 v1)) ∧ Below V.heap.size V w' := fun V => isPair_any k1 v1 V m1 m2
 have c2 : ∀ V, Calls Tryz.prog 13 #[.string k2, .string v2] V fun e w' => e = .returned (.bool (isPairB k2 v2)) ∧ Below V.heap.size V w' := fun V => isPair_any k2 v2 V m3 m4
 obtain ⟨⟨p0, p1⟩, -⟩ := id b1
 obtain ⟨⟨q0, q1⟩, -⟩ := id b2
 rcases h with rfl | rfl | ⟨rfl, h⟩
 ·
  clear c1 c2
  go_enter Tryz.func24, Tryz.ntmps24
  go_wp2
  go_ret
  exact ⟨rfl, HB⟩
 ·
  clear c1 c2
  go_enter Tryz.func24, Tryz.ntmps24
  go_wp2
  go_ret
  exact ⟨rfl, HB⟩
 ·
  cases h1 : isPairB k1 v1 with
  | false =>
   rw [h1] at c1
   clear h h1 c2
   go_enter Tryz.func24, Tryz.ntmps24
   go_wp2_with (go_at_call 13; refine (c1 _).mono ?_; rintro y w1 ⟨rfl, hb⟩; replace HB := Below.tr HB hb)
   go_ret
   exact ⟨rfl, HB⟩
  | true =>
   have h2 : isPairB k2 v2 = false := by rw [h1, Bool.true_and] at h; exact h
   rw [h1] at c1
   rw [h2] at c2
   clear h h1 h2
   have tk : True := trivial
   go_enter Tryz.func24, Tryz.ntmps24
   go_wp2_with (first
    | (go_at_call 13; have _t := tk; refine (c1 _).mono ?_; rintro y w1 ⟨rfl, hb⟩; replace HB := Below.tr HB hb; replace q0 := cell_below hb q0; replace q1 := cell_below hb q1; replace p0 := cell_below hb p0; replace p1 := cell_below hb p1; clear tk hb)
    | (go_at_call 13; refine (c2 _).mono ?_; rintro y w2 ⟨rfl, hb⟩; replace HB := Below.tr HB hb; clear hb))
   go_ret
   exact ⟨rfl, HB⟩
def WoodS.only (G : WoodS) : Prop := ∀ b, G.has b ↔ (0 ≤ b ∧ b < 10) ∨ b ∈ G.tree.blocks
theorem Plain.TreeOf.more {H H' : Int → Bool → Option NodeS} : ∀ {ht : Nat} {r : Bool} {block : Int} {low high : ByteArray} {Q : List (ByteArray × ByteArray)} {B : List Int}, TreeOf H ht r block low high Q B → (∀ b ∈ B, ∀ r n, H b r = some n → H' b r = some n) → TreeOf H' ht r block low high Q B
 | 0, _, _, _, _, _, _, h, _ => h
 | ht + 1, r, block, low, high, Q, B, ⟨n, C, h1, h2, h3, h4⟩, hh => by
  refine ⟨n, C, hh block (by rw [h3]; simp) r n h1, h2, h3, ?_⟩
  rcases h4 with h4 | ⟨a, b, c⟩
  ·
   exact .inl h4
  ·
   exact .inr ⟨a, b, c.mono fun b l u Q' B' hb hx => hx.more fun y hy => hh y (by rw [h3]; simp [hb y hy])⟩
theorem tree_count {G : WoodS} (hr : G.right = true) : G.tree.pairs.length ≤ 18432 := by
 have hs : Sound G.now.length G.tree := by
  unfold WoodS.tree treeS
  split
  ·
   exact sound_none _
  ·
   refine sound_below (fun b r nd hh => ?_) 8 TreeS.none G.root ⟨#[]⟩ ⟨#[]⟩ (sound_none _)
   have h9 := (holds_len b r nd hh).1
   unfold holdsS at hh
   split at hh
   ·
    rename_i hc; exact ⟨⟨by omega, hc.2.1⟩, h9⟩
   ·
    cases hh
 have h1 := nodup_le _ _ hs.1 hs.2.1
 have h2 := hs.2.2
 have h3 := ((rightA_iff _ _).1 (right_ok.1 hr).1.alloc).2.2.1
 omega
def withRest (put : Bool) (ps : List (ByteArray × ByteArray)) (k v : ByteArray) : List (ByteArray × ByteArray) := if put = true then ps.filter (fun q => decide (q.1 ≠ k)) else withP ps k v
theorem rest_lt {ps : List (ByteArray × ByteArray)} {j : Nat} {p : ByteArray × ByteArray} {k v : ByteArray} (hp : ps[j]? = some p) (h : ltB p.1 k = true) (put : Bool) : withRest put (ps.drop j) k v = p :: withRest put (ps.drop (j + 1)) k v := by
 obtain ⟨hl, e⟩ := List.getElem?_eq_some_iff.1 hp
 rw [List.drop_eq_getElem_cons hl, e]
 cases put with
 | true =>
  unfold withRest
  rw [if_pos rfl, if_pos rfl]
  rw [List.filter_cons, if_pos (by simpa using lt_ne h)]
 | false =>
  unfold withRest
  rw [if_neg (by decide), if_neg (by decide)]
  rw [withP, if_pos h]
theorem rest_ne {ps : List (ByteArray × ByteArray)} {j : Nat} {p : ByteArray × ByteArray} {k v : ByteArray} (hp : ps[j]? = some p) (h : p.1 ≠ k) : withRest true (ps.drop j) k v = p :: withRest true (ps.drop (j + 1)) k v := by
 obtain ⟨hl, e⟩ := List.getElem?_eq_some_iff.1 hp
 rw [List.drop_eq_getElem_cons hl, e]
 unfold withRest
 rw [if_pos rfl, if_pos rfl]
 rw [List.filter_cons, if_pos (by simpa using h)]
theorem rest_eq {ps : List (ByteArray × ByteArray)} {j : Nat} {p : ByteArray × ByteArray} {k v : ByteArray} (hp : ps[j]? = some p) (h : p.1 = k) : withRest true (ps.drop j) k v = withRest true (ps.drop (j + 1)) k v := by
 obtain ⟨hl, e⟩ := List.getElem?_eq_some_iff.1 hp
 rw [List.drop_eq_getElem_cons hl, e]
 unfold withRest
 rw [if_pos rfl, if_pos rfl]
 rw [List.filter_cons, if_neg (by simpa using h)]
theorem rest_put {ps : List (ByteArray × ByteArray)} {j : Nat} {p : ByteArray × ByteArray} {k v : ByteArray} (hp : ps[j]? = some p) (h : ltB p.1 k = false) : withRest false (ps.drop j) k v = (k, v) :: withRest true (ps.drop j) k v := by
 obtain ⟨hl, e⟩ := List.getElem?_eq_some_iff.1 hp
 rw [List.drop_eq_getElem_cons hl, e]
 unfold withRest
 rw [if_pos rfl, if_neg (by decide)]
 rw [withP, if_neg (by rw [h]; decide)]
theorem rest_end (ps : List (ByteArray × ByteArray)) (k v : ByteArray) (put : Bool) : withRest put (ps.drop ps.length) k v = if put = true then [] else [(k, v)] := by
 rw [List.drop_length]
 cases put <;> rfl
theorem owns_none9 (w : World) : (w.alloc (.cells #[] 50)).ownsRow w.heap.size 50 2 (.slice (some ⟨w.heap.size, 0, none⟩) 0 0) 0 (cellsQ []) := World.ownsRow_made w #[] 0 (Nat.le_refl _) (Nat.zero_le _) rfl
theorem withP_few (ps : List (ByteArray × ByteArray)) (k v : ByteArray) : (withP ps k v).length ≤ ps.length + 1 := by
 induction ps with
 | nil => simp [withP]
 | cons p ps ih =>
  rw [withP]
  split
  ·
   simp; omega
  ·
   have := List.length_filter_le (fun q : ByteArray × ByteArray => decide (q.1 ≠ k)) (p :: ps)
   simp only [List.length_cons] at this ⊢
   omega
set_option maxRecDepth 20000 in
set_option maxHeartbeats 4000000 in
theorem refWith_any (a : Option Addr) (c n : Nat) (ps : List (ByteArray × ByteArray)) (key val : ByteArray) (w : World) (hn : n = ps.length) (hQ : IsQ w a c ps) (hm : n ≤ 1000000000) (mk : key.size ≤ maxLen) (mv : val.size ≤ maxLen) :
  Calls Tryz.prog 19 #[.slice a n c, .string key, .string val] w fun e w' => ∃ a' k c', e = .returned (.slice a' k c') ∧ k = (withP ps key val).length ∧ IsQ w' a' c' (withP ps key val) ∧ From w.heap.size a' ∧ Below w.heap.size w w' := by
 have EN : Hid (n = ps.length) := hn
 have RQ : Hid (IsQ w a c ps) := hQ
 have hfew := withP_few ps key val
 have OK : Hid (∀ p ∈ withP ps key val, p.1.size ≤ maxLen ∧ p.2.size ≤ maxLen) := fun p hp => by
  rcases mem_with.1 hp with rfl | ⟨hp, _⟩
  ·
   exact ⟨mk, mv⟩
  ·
   obtain ⟨j, hj⟩ := List.mem_iff_getElem?.1 hp
   obtain ⟨_, _, _, _, _, _, h1, h2⟩ := hQ.2.2 j p hj
   exact ⟨h1, h2⟩
 rw [← hn] at hfew
 obtain ⟨R, hR⟩ : ∃ R, R = withP ps key val := ⟨_, rfl⟩
 have HR : Hid (R = withRest false (ps.drop 0) key val) := by show _ = _; rw [hR]; rfl
 rw [← hR] at hfew OK ⊢
 clear hn hQ hR
 go_enter Tryz.func19, Tryz.ntmps19
 go_wp2
 have hA := (Below.refl w.heap.size w).alloc (Nat.le_refl _) (.cells #[] 50)
 go_loopw [7, 8, 14] (fun ov pv v wr => ∃ (j q g cap : Nat) (put : Bool) (L : List (ByteArray × ByteArray)), j ≤ n ∧ v = .int .i64 j ∧ pv = .bool put ∧ ov = .slice (some ⟨g, 0, none⟩) q cap ∧ (R = L ++ withRest put (ps.drop j) key val ∧ q = L.length) ∧ wr.ownsRow w.heap.size 50 2 (.slice (some ⟨g, 0, none⟩) q cap) q (cellsQ L) ∧ Below w.heap.size w wr) (fun _ _ v _ => n - (intOf v).toNat)
 case atStart => exact ⟨0, 0, w.heap.size, 0, false, [], by omega, rfl, rfl, rfl, ⟨HR.out, rfl⟩, owns_none9 w, hA⟩
 case round =>
  clear hA
  obtain ⟨j, q, g, cap, put, L, hj, rfl, rfl, rfl, hL, hown, HB⟩ := hrel
  have HL : Hid (R = L ++ withRest put (ps.drop j) key val ∧ q = L.length) := hL
  have hq : q ≤ 1000000001 := by have e := congrArg List.length hL.1; rw [List.length_append] at e; omega
  clear hL
  by_cases hlt : j < n
  ·
   have hlt' : (j : Int) < n := by omega
   obtain ⟨⟨k, v⟩, hp⟩ : ∃ x, Hid (ps[j]? = some x) := get_some (by rw [← EN.out]; exact hlt)
   obtain ⟨b, o, rfl, -, hc0, hc1, -, -⟩ := RQ.out.2.2 j (k, v) hp.out
   have z0 := cell_below HB hc0
   have z1 := cell_below HB hc1
   clear hc0 hc1
   have HB1 := Below.tr HB ((Below.refl _ _).alloc (Nat.le_refl _) (.cells #[.string k, .string v] 50))
   have hown1 := hown.alloc (.cells #[.string k, .string v] 50)
   have hown0 := hown
   clear hown HB
   obtain ⟨W1, hW1⟩ : ∃ W1, W1 = wr.alloc (.cells #[.string k, .string v] 50) := ⟨_, rfl⟩
   have hWs : W1.heap.size = wr.heap.size + 1 := by rw [hW1]; simp
   rw [← hW1] at HB1 hown1
   obtain ⟨g2, cap2, U2, hrun2, hown2, hgr2, -, -, -⟩ := push_Q W1 w.heap.size (.slice (some ⟨g, 0, none⟩) q cap) q L (k, v) hown1 (by have := HB1.size; exact this) (by omega)
   have T2 : Turns (fun k => w.heap.size ≤ k) W1 U2 := ((Turns.refl _ _).alloc _).grown hgr2 (fun k hk => (hown1.lt k hk).1)
   have HB2 := Below.turns HB1 T2 (fun k hk => hk)
   have hfin2 : Hid (U2.ownsRow w.heap.size 50 2 (.slice (some ⟨g2, 0, none⟩) (q + 1) cap2) (q + 1) (cellsQ (L ++ [(k, v)])) ∧ Below w.heap.size w U2) := ⟨hown2, HB2⟩
   obtain ⟨g3, cap3, U3, hrun3, hown3, hgr3, -, -, -⟩ := push_Q W1 w.heap.size (.slice (some ⟨g, 0, none⟩) q cap) q L (key, val) hown1 (by have := HB1.size; exact this) (by omega)
   have T3 : Turns (fun k => w.heap.size ≤ k) W1 U3 := ((Turns.refl _ _).alloc _).grown hgr3 (fun k hk => (hown1.lt k hk).1)
   have HB3 := Below.turns HB1 T3 (fun k hk => hk)
   have hfin3 : Hid (U3.ownsRow w.heap.size 50 2 (.slice (some ⟨g3, 0, none⟩) (q + 1) cap3) (q + 1) (cellsQ (L ++ [(key, val)])) ∧ Below w.heap.size w U3) := ⟨hown3, HB3⟩
   have hfin1 : Hid (W1.ownsRow w.heap.size 50 2 (.slice (some ⟨g, 0, none⟩) q cap) q (cellsQ L) ∧ Below w.heap.size w W1) := ⟨hown1, HB1⟩
   have hgb : g < wr.heap.size := by have h1 := hown0.lt g rfl; omega
   have hbx : Hid (U3.cell? ⟨wr.heap.size, 0, none⟩ = some (.string k) ∧ U3.cell? ⟨wr.heap.size, 1, none⟩ = some (.string v)) := by
    obtain ⟨⟨p0, p1⟩, -⟩ := (box2_new wr (.string k) (.string v) 50 rfl).alloc (.cells #[.string key, .string val] 50)
    rw [← hW1] at p0 p1
    exact ⟨hgr3.cell p0 (fun e => by have := Option.some.inj e; simp only at this; omega), hgr3.cell p1 (fun e => by have := Option.some.inj e; simp only at this; omega)⟩
   obtain ⟨g4, cap4, U4, hrun4, hown4, hgr4, -, -, -⟩ := push_Q U3 w.heap.size (.slice (some ⟨g3, 0, none⟩) (q + 1) cap3) (q + 1) (L ++ [(key, val)]) (k, v) hown3 (by have := HB3.size; exact this) (by omega)
   have T4 : Turns (fun k => w.heap.size ≤ k) U3 U4 := ((Turns.refl _ _).alloc _).grown hgr4 (fun k hk => (hown3.lt k hk).1)
   have hfin4 : Hid (U4.ownsRow w.heap.size 50 2 (.slice (some ⟨g4, 0, none⟩) (q + 1 + 1) cap4) (q + 1 + 1) (cellsQ (L ++ [(key, val)] ++ [(k, v)])) ∧ Below w.heap.size w U4) := ⟨hown4, Below.turns HB3 T4 (fun k hk => hk)⟩
   clear hown1 hown2 hown3 hown4 hgr2 hgr3 hgr4 T2 T3 T4 HB1 HB2 HB3 hown0 hgb hWs
   subst hW1
   simp only [World.size_alloc] at hrun2 hrun3
   by_cases he : k = key
   ·
    subst he
    have s1 : Op.bytesLess k.toList k.toList = false := ltB_irrefl k
    have s2 := str_eq_true (rfl : k = k)
    cases put with
    | true =>
     have hN : Hid (R = L ++ withRest true (ps.drop (j + 1)) k val ∧ q = L.length) := ⟨by rw [HL.out.1, rest_eq hp.out rfl], HL.out.2⟩
     go_wp2
     go_roundw
     case rel => exact ⟨j + 1, q, g, cap, true, L, by omega, by go_num, rfl, rfl, hN.out, hfin1.out.1, hfin1.out.2⟩
     case measure => simp [intOf]; omega
    | false =>
     have hN : Hid (R = (L ++ [(k, val)]) ++ withRest true (ps.drop (j + 1)) k val ∧ q + 1 = (L ++ [(k, val)]).length) := ⟨by rw [HL.out.1, rest_put hp.out (ltB_irrefl k), rest_eq hp.out rfl, List.append_assoc]; rfl, by rw [List.length_append, ← HL.out.2]; rfl⟩
     obtain ⟨y0, y1⟩ := hbx.out
     go_wp2_with (at_builtin; refine Lib.wpList_append_run _ rfl _ _ _ _ rfl _ _ rfl rfl _ _ hrun3 ?_)
     go_roundw
     case rel => exact ⟨j + 1, q + 1, g3, cap3, true, L ++ [(k, val)], by omega, by go_num, rfl, rfl, hN.out, hfin3.out.1, hfin3.out.2⟩
     case measure => simp [intOf]; omega
   ·
    have s2 := str_eq_false he
    cases hl : ltB k key with
    | true =>
     have s1 : Op.bytesLess k.toList key.toList = true := hl
     have s3 : Op.bytesLess key.toList k.toList = false := ltB_asymm hl
     have hN : Hid (R = (L ++ [(k, v)]) ++ withRest put (ps.drop (j + 1)) key val ∧ q + 1 = (L ++ [(k, v)]).length) := ⟨by rw [HL.out.1, rest_lt hp.out hl, List.append_assoc]; rfl, by rw [List.length_append, ← HL.out.2]; rfl⟩
     clear hl he
     cases put with
     | true =>
      go_wp2_with (at_builtin; refine Lib.wpList_append_run _ rfl _ _ _ _ rfl _ _ rfl rfl _ _ hrun2 ?_)
      go_roundw
      case rel => exact ⟨j + 1, q + 1, g2, cap2, true, L ++ [(k, v)], by omega, by go_num, rfl, rfl, hN.out, hfin2.out.1, hfin2.out.2⟩
      case measure => simp [intOf]; omega
     | false =>
      go_wp2_with (at_builtin; refine Lib.wpList_append_run _ rfl _ _ _ _ rfl _ _ rfl rfl _ _ hrun2 ?_)
      go_roundw
      case rel => exact ⟨j + 1, q + 1, g2, cap2, false, L ++ [(k, v)], by omega, by go_num, rfl, rfl, hN.out, hfin2.out.1, hfin2.out.2⟩
      case measure => simp [intOf]; omega
    | false =>
     have s1 : Op.bytesLess k.toList key.toList = false := hl
     have s3 : Op.bytesLess key.toList k.toList = true := by
      cases h : Op.bytesLess key.toList k.toList with
      | true => rfl
      | false => exact absurd (ltB_total hl h) he
     cases put with
     | true =>
      have hN : Hid (R = (L ++ [(k, v)]) ++ withRest true (ps.drop (j + 1)) key val ∧ q + 1 = (L ++ [(k, v)]).length) := ⟨by rw [HL.out.1, rest_ne hp.out he, List.append_assoc]; rfl, by rw [List.length_append, ← HL.out.2]; rfl⟩
      clear hl he
      go_wp2_with (at_builtin; refine Lib.wpList_append_run _ rfl _ _ _ _ rfl _ _ rfl rfl _ _ hrun2 ?_)
      go_roundw
      case rel => exact ⟨j + 1, q + 1, g2, cap2, true, L ++ [(k, v)], by omega, by go_num, rfl, rfl, hN.out, hfin2.out.1, hfin2.out.2⟩
      case measure => simp [intOf]; omega
     | false =>
      have hN : Hid (R = (L ++ [(key, val)] ++ [(k, v)]) ++ withRest true (ps.drop (j + 1)) key val ∧ q + 1 + 1 = (L ++ [(key, val)] ++ [(k, v)]).length) := ⟨by rw [HL.out.1, rest_put hp.out hl, rest_ne hp.out he]; simp, by rw [List.length_append, List.length_append, ← HL.out.2]; rfl⟩
      obtain ⟨y0, y1⟩ := hbx.out
      clear hl he
      have tk : True := trivial
      go_wp2_with (first
       | (at_builtin; have _t := tk; refine Lib.wpList_append_run _ rfl _ _ _ _ rfl _ _ rfl rfl _ _ hrun3 ?_; clear tk)
       | (at_builtin; refine Lib.wpList_append_run _ rfl _ _ _ _ rfl _ _ rfl rfl _ _ hrun4 ?_))
      go_roundw
      case rel => exact ⟨j + 1, q + 1 + 1, g4, cap4, true, L ++ [(key, val)] ++ [(k, v)], by omega, by go_num, rfl, rfl, hN.out, hfin4.out.1, hfin4.out.2⟩
      case measure => simp [intOf]; omega
  ·
   obtain rfl : n = j := by omega
   have hj0 : ¬ (n : Int) < n := by omega
   cases put with
   | true =>
    have hR : Hid (R = L) := by show _ = _; rw [HL.out.1, EN.out, rest_end]; simp
    go_wp2
    go_ret
    obtain ⟨a', c', e, hI, hF⟩ := owned_isQ hown HL.out.2 (by rw [← hR.out]; exact OK.out)
    cases e
    exact ⟨_, q, _, rfl, by rw [hR.out]; exact HL.out.2, by rw [hR.out]; exact hI, hF, HB⟩
   | false =>
    have hR : Hid (R = L ++ [(key, val)]) := by show _ = _; rw [HL.out.1, EN.out, rest_end]; simp
    obtain ⟨g2, cap2, U2, hrun2, hown2, hgr2, -, -, -⟩ := push_Q wr w.heap.size (.slice (some ⟨g, 0, none⟩) q cap) q L (key, val) hown (by have := HB.size; exact this) (by omega)
    have T2 : Turns (fun k => w.heap.size ≤ k) wr U2 := ((Turns.refl _ _).alloc _).grown hgr2 (fun k hk => (hown.lt k hk).1)
    have HB2 := Below.turns HB T2 (fun k hk => hk)
    have hfin : Hid (U2.ownsRow w.heap.size 50 2 (.slice (some ⟨g2, 0, none⟩) (q + 1) cap2) (q + 1) (cellsQ (L ++ [(key, val)])) ∧ Below w.heap.size w U2) := ⟨hown2, HB2⟩
    clear hown HB HB2 T2 hown2 hgr2
    go_wp2_with (at_builtin; refine Lib.wpList_append_run _ rfl _ _ _ _ rfl _ _ rfl rfl _ _ hrun2 ?_)
    go_ret
    obtain ⟨a', c', e, hI, hF⟩ := owned_isQ hfin.out.1 (by rw [List.length_append, ← HL.out.2]; rfl) (by rw [← hR.out]; exact OK.out)
    cases e
    exact ⟨_, q + 1, _, rfl, by rw [hR.out, List.length_append, ← HL.out.2]; rfl, by rw [hR.out]; exact hI, hF, hfin.out.2⟩
end Go.Proofs.YtaecfbfcjaailaaGreat
namespace Go.Proofs.YtaecfbfcjaailaaGreat
open Go.RowKit Plain Go.ChangeShapes Go.WideShapes
set_option linter.unusedVariables false
set_option maxRecDepth 20000 in
theorem open_pair {H : Type} {enc : TypeId × Value → H} {w : World} {r : Reach} {b0 : Nat} {v : Value} {d : DataW H} {p : List MemPlace}
  (hv : Value.okWide Tryz.prog w r b0 50 v) (h : DataW.Trod enc Tryz.prog w 0 (fun _ => true) true 50 v d p) :
  ∃ k s, v = .agg #[.string k, .string s] ∧ k.size ≤ maxLen ∧ s.size ≤ maxLen := by
 obtain ⟨v0, v1, y0, y1, n, rfl, _, _, h0, h1⟩ := Joins.open_agg2 Tryz.underlying50 (by kernel_rfl) (by kernel_rfl) hv h
 obtain ⟨k, hk, _, hks⟩ := DataW.trod_string Tryz.underlying9 h0
 obtain ⟨s, hs, _, hss⟩ := DataW.trod_string Tryz.underlying9 h1
 simp at hk hs
 subst hk hs
 exact ⟨k, s, rfl, hks, hss⟩
end Go.Proofs.YtaecfbfcjaailaaGreat
namespace Go.Proofs.YtaecfbfcjaailaaGreat
open Go.RowKit Plain
set_option linter.unusedVariables false
def TreeD (V : World) (y : Ending) (w' : World) (t : TreeS) : Prop :=
 ∃ z q d r k, y = .returned (.pointer (some ⟨z, 0, none⟩)) ∧ Box4 w' z (.slice q t.pairs.length d) (.slice r t.blocks.length k) (.int .i64 t.height) (.bool t.bad) ∧ V.heap.size ≤ z ∧ (IsQ w' q d t.pairs ∧ IsI w' r k t.blocks) ∧ Below V.heap.size V w'
theorem TreeC.wide {V : World} {y : Ending} {w' : World} {t : TreeS} (h : TreeC V y w' t) : TreeD V y w' t := by
 obtain ⟨q, d, r, k, h1, h2, h3, h4⟩ := h
 exact ⟨_, q, d, r, k, h1, h2, by omega, h3, h4⟩
theorem WoodL.treeD {V : World} {a : Option Addr} {n c : Nat} {a' : Option Addr} {n' c' : Nat} {b : Option Addr} {p f : Nat} {G : WoodS} (x : WoodL V a n c a' n' c' b p f G) : Calls Tryz.prog 15 #[.agg #[.slice a n c, .slice a' n' c', .slice b p f, .int .i64 G.root, .int .i64 G.gen]] V fun y w' => TreeD V y w' G.tree :=
 x.tree.mono fun y w' h => h.wide
end Go.Proofs.YtaecfbfcjaailaaGreat

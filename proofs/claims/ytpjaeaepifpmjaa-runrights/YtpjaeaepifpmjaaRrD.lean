/-
  Texts laid together: RunRefMend RunRefNew RunRefOver TaskRefLease RunRefSettle RunRefFits TaskRefRight DagRefShape DagRefRight RunRefRight.
-/
import Derived.Test.YtpjaeaepifpmjaaRrC
import Derived.Test.YtpjaeaepifpmjaaRrA
import Derived.Test.YtpjaeaepifpmjaaRrB
namespace Go.Proofs.Ytpjaeaepifpmjaa
open Go.RowKit Plain Anylast
set_option linter.unusedVariables false
theorem setI_nat (ss : List StP) (j : Nat) (x : StP) : setI ss j x = ss.set j x := by unfold setI; rw [if_pos (by omega)]; rfl
def mendJ (ts : List TaskP) (ss : List StP) (j : Nat) : List StP := ss.mapIdx fun i s => if (decide (i < j) && readyI ts ss i) = true then readyT s else s
theorem mendJ_length (ts : List TaskP) (ss : List StP) (j : Nat) : (mendJ ts ss j).length = ss.length := by simp [mendJ]
theorem mendJ_zero (ts : List TaskP) (ss : List StP) : mendJ ts ss 0 = ss := by
 refine List.ext_getElem? fun i => ?_
 unfold mendJ
 rw [List.getElem?_mapIdx]
 cases ss[i]? <;> rfl
theorem mendJ_at {ts : List TaskP} {ss : List StP} {j i : Nat} {s : StP} (h : ss[i]? = some s) : (mendJ ts ss j)[i]? = some (if (decide (i < j) && readyI ts ss i) = true then readyT s else s) := by
 unfold mendJ; rw [List.getElem?_mapIdx, h]; rfl
theorem mendJ_done (ts : List TaskP) (ss : List StP) (j y : Nat) : isAt (mendJ ts ss j) y = 3 ↔ isAt ss y = 3 := by
 unfold isAt
 cases h : ss[y]? with
 | none =>
  have : (mendJ ts ss j)[y]? = none := by
   rw [List.getElem?_eq_none_iff, mendJ_length]
   exact List.getElem?_eq_none_iff.1 h
  rw [this]
 | some s =>
  rw [mendJ_at h]
  simp only [Option.map_some, Option.getD_some]
  split
  ·
   rw [ready_i]; split <;> omega
  ·
   rfl
theorem mendJ_succ {ts : List TaskP} {ss : List StP} {j : Nat} {s : StP} (hs : ss[j]? = some s) : mendJ ts ss (j + 1) = if readyI ts ss j = true then (mendJ ts ss j).set j (readyT s) else mendJ ts ss j := by
 have hl := (List.getElem?_eq_some_iff.1 hs).1
 refine List.ext_getElem? fun i => ?_
 by_cases hr : readyI ts ss j = true
 ·
  rw [if_pos hr]
  by_cases hi : j = i
  ·
   subst hi
   rw [mendJ_at hs, List.getElem?_set_self (by rw [mendJ_length]; exact hl), hr]
   simp
  ·
   rw [List.getElem?_set_ne hi]
   cases h : ss[i]? with
   | none => rw [List.getElem?_eq_none (by rw [mendJ_length]; exact List.getElem?_eq_none_iff.1 h), List.getElem?_eq_none (by rw [mendJ_length]; exact List.getElem?_eq_none_iff.1 h)]
   | some t =>
    rw [mendJ_at h, mendJ_at h]
    have : decide (i < j + 1) = decide (i < j) := by rw [Bool.eq_iff_iff, decide_eq_true_iff, decide_eq_true_iff]; omega
    rw [this]
 ·
  rw [if_neg hr]
  cases h : ss[i]? with
  | none => rw [List.getElem?_eq_none (by rw [mendJ_length]; exact List.getElem?_eq_none_iff.1 h), List.getElem?_eq_none (by rw [mendJ_length]; exact List.getElem?_eq_none_iff.1 h)]
  | some t =>
   rw [mendJ_at h, mendJ_at h]
   by_cases hi : j = i
   ·
    subst hi
    have : readyI ts ss j = false := by simpa using hr
    rw [this, Bool.and_false, Bool.and_false]
   ·
    have : decide (i < j + 1) = decide (i < j) := by rw [Bool.eq_iff_iff, decide_eq_true_iff, decide_eq_true_iff]; omega
    rw [this]
theorem mendJ_all (ts : List TaskP) (ss : List StP) : mendJ ts ss ss.length = ss.mapIdx fun i s => if readyI ts ss i then readyT s else s := by
 refine List.ext_getElem? fun i => ?_
 rw [List.getElem?_mapIdx]
 cases h : ss[i]? with
 | none =>
  rw [Option.map_none, List.getElem?_eq_none_iff, mendJ_length]
  exact List.getElem?_eq_none_iff.1 h
 | some s =>
  rw [mendJ_at h, Option.map_some, decide_eq_true (List.getElem?_eq_some_iff.1 h).1, Bool.true_and]
def MadeC (w : World) (ky nm : ByteArray) (ta : Option Addr) (tn tc : Nat) (is : Int) (sa : Option Addr) (n : Nat) (ss : List StP) (v : Value) (w' : World) : Prop :=
 ∃ a c, v = .agg #[.string ky, .string nm, .slice ta tn tc, .int .i64 is, .slice a n c] ∧ IsZ w' a c ss ∧ n = ss.length ∧ (a = sa ∨ From w.heap.size a) ∧ Below w.heap.size w w'
def withV (ky nm : ByteArray) (ta : Option Addr) (tn tc : Nat) (is : Int) (sa : Option Addr) (n sc j : Nat) (s x : StP) (B : Nat) (zs : List StP) : Nat → Value → World → Prop
 | 0, v, _ => v = .agg #[.string ky, .string nm, .slice ta tn tc, .int .i64 is, .slice sa n sc]
 | 1, v, _ => v = .int .i64 j
 | 2, v, _ => v = vT s
 | 3, v, _ => v = vT x
 | 4, v, w => ∃ a c, v = .agg #[.string ky, .string nm, .slice ta tn tc, .int .i64 is, .slice a n c] ∧ IsZ w a c zs ∧ From B a
 | _, _, _ => True
def withS (Y : World) (z : Nat) (ky nm : ByteArray) (ta : Option Addr) (tn tc : Nat) (is : Int) (n : Nat) (zs : List StP) : Nat → World → Prop
 | 0, V => Below Y.heap.size Y V
 | _, V => (∃ a c, BoxL V z [.string ky, .string nm, .slice ta tn tc, .int .i64 is, .slice a n c] ∧ IsZ V a c zs ∧ From Y.heap.size a) ∧ Turns (fun k => k = z) Y V
theorem withV_mono {ky nm : ByteArray} {ta : Option Addr} {tn tc : Nat} {is : Int} {sa : Option Addr} {n sc j : Nat} {s x : StP} {B z : Nat} {zs : List StP} (hz : z < B) (i : Nat) (v : Value) (X Y : World) (t : Turns (fun k => k = z) X Y) (hv : withV ky nm ta tn tc is sa n sc j s x B zs i v X) : withV ky nm ta tn tc is sa n sc j s x B zs i v Y := by
 match i, hv with
 | 0, hv => exact hv
 | 1, hv => exact hv
 | 2, hv => exact hv
 | 3, hv => exact hv
 | 4, hv =>
  obtain ⟨a, c, e, h, f⟩ := hv
  exact ⟨a, c, e, h.turns t fun y hy hk => by have := f y hy; have hk' : y.block = z := hk; omega, f⟩
 | i + 5, hv => trivial
theorem withS_put {Y X : World} {z : Nat} {ky nm : ByteArray} {ta : Option Addr} {tn tc : Nat} {is : Int} {sa a : Option Addr} {n sc c : Nat} {zs : List StP} (hz : z < Y.heap.size) (BX : BoxL Y z [.string ky, .string nm, .slice ta tn tc, .int .i64 is, .slice sa n sc]) (hb : Below Y.heap.size Y X) (hI : IsZ X a c zs) (hF : From Y.heap.size a) :
  withS Y z ky nm ta tn tc is n zs 1 (((((X.setCell ⟨z, 0, none⟩ (.string ky)).setCell ⟨z, 1, none⟩ (.string nm)).setCell ⟨z, 2, none⟩ (.slice ta tn tc)).setCell ⟨z, 3, none⟩ (.int .i64 is)).setCell ⟨z, 4, none⟩ (.slice a n c)) := by
 have tt := turns_set5 X z (.string ky) (.string nm) (.slice ta tn tc) (.int .i64 is) (.slice a n c)
 exact ⟨⟨a, c, boxL_set5 (BX.below hb) _ _ _ _ _, hI.turns tt fun y hy hk => by have := hF y hy; have hk' : y.block = z := hk; omega, hF⟩, (Turns.of_below hb).trans tt⟩
set_option maxRecDepth 20000 in
set_option maxHeartbeats 4000000 in
theorem refMend_any (ky nm : ByteArray) (ta : Option Addr) (tn tc : Nat) (is : Int) (sa : Option Addr) (n sc : Nat) (tv : List TaskV) (ss : List StP) (w : World) (hT : IsT w ta tc tv) (htn : tn = tv.length) (hZ : IsZ w sa sc ss) (hn : n = ss.length) (hnt : n = tn) (h10 : n ≤ 10) (hin : ∀ (i : Nat) t, tv[i]? = some t → ∀ x ∈ t.ns, 0 ≤ x ∧ x < n) :
  Calls Try.prog 36 #[.agg #[.string ky, .string nm, .slice ta tn tc, .int .i64 is, .slice sa n sc]] w fun e w' => ∃ v, e = .returned v ∧ MadeC w ky nm ta tn tc (mendS (plainT tv) ss is).2 sa n (mendS (plainT tv) ss is).1 v w' := by
 obtain ⟨W0, hW0⟩ : ∃ W0, W0 = (w.alloc (.cells #[.string ky, .string nm, .slice ta tn tc, .int .i64 is, .slice sa n sc] 27)).alloc (.cells #[.string ⟨#[]⟩, .string ⟨#[]⟩, .slice none 0 0, .int .i64 0, .slice none 0 0] 27) := ⟨_, rfl⟩
 have hB0 : Below w.heap.size w W0 := by rw [hW0]; exact bel2 w _ _
 have BX : BoxL W0 w.heap.size [.string ky, .string nm, .slice ta tn tc, .int .i64 is, .slice sa n sc] := by rw [hW0]; exact (boxL_new w [.string ky, .string nm, .slice ta tn tc, .int .i64 is, .slice sa n sc] _ rfl).alloc _
 have BY : BoxL W0 (w.heap.size + 1) [.string ⟨#[]⟩, .string ⟨#[]⟩, .slice none 0 0, .int .i64 0, .slice none 0 0] := by rw [hW0]; exact boxL_new _ [.string ⟨#[]⟩, .string ⟨#[]⟩, .slice none 0 0, .int .i64 0, .slice none 0 0] _ (by simp)
 have cH := refHas_any ky nm ta tn tc is sa n sc ss 4 W0 (hZ.below hB0) hn
 have cW := fun is' sa' sc' (ss' : List StP) p (x : StP) W (hz : IsZ W sa' sc' ss') (hl : n = ss'.length) (hx : x.r.size ≤ maxLen) => refWith_any ky nm ta tn tc is' sa' n sc' ss' p x.i x.t x.d x.k x.r W hz hl (by omega) hx
 have HN : Hid (n = ss.length) := hn
 have HNT : Hid (n = tn) := hnt
 have HTN : Hid (tn = tv.length) := htn
 have HT : Hid (IsT w ta tc tv) := hT
 have HZ : Hid (IsZ w sa sc ss) := hZ
 have HIN : Hid (∀ (i : Nat) t, tv[i]? = some t → ∀ x ∈ t.ns, 0 ≤ x ∧ x < n) := hin
 have hnm : n ≤ 9223372036854775807 := by omega
 have f0 := BX.1 0 _ rfl; have f1 := BX.1 1 _ rfl; have f2 := BX.1 2 _ rfl; have f3 := BX.1 3 _ rfl; have f4 := BX.1 4 _ rfl
 rw [hW0] at f0 f1 f2 f3 f4
 cases h4 : hasK ss 4 with
 | true =>
  have hm : mendS (plainT tv) ss is = (ss.map cancelT, 2) := if_pos h4
  rw [hm]
  rw [h4] at cH
  clear hT htn hZ hn hnt hin h4 hm
  go_enter Try.func36, Try.ntmps36
  go_wp2_with (go_at_call 27; rw [← hW0]; refine cH.mono ?_; rintro e w1 ⟨rfl, hb⟩; have BX1 := BX.below hb; have BY1 := BY.below hb; have hB := Below.tr hB0 hb; clear f0 f1 f2 f3 f4; have x4 := BX1.1 4 _ rfl)
  clear x4
  go_loopw [15] (fun v wr => ∃ (j : Nat) (a : Option Addr) (c : Nat), j ≤ n ∧ v = .int .i64 j ∧ BoxL wr w.heap.size [.string ky, .string nm, .slice ta tn tc, .int .i64 is, .slice a n c] ∧ BoxL wr (w.heap.size + 1) [.string ⟨#[]⟩, .string ⟨#[]⟩, .slice none 0 0, .int .i64 0, .slice none 0 0] ∧ IsZ wr a c (cancelTo ss j) ∧ Hid (a = sa ∨ From (w.heap.size + 2) a) ∧ Below w.heap.size w wr) (fun v _ => n - (intOf v).toNat)
  case atStart => exact ⟨0, sa, sc, Nat.zero_le _, rfl, BX1, BY1, by rw [cancelTo_zero]; exact (HZ.out.below hB0).below hb, .inl rfl, hB⟩
  case round =>
   clear BX1 BY1 hB
   obtain ⟨j, a, c, hj, rfl, BX2, BY2, hZc, HA, hB⟩ := hrel
   by_cases hlt : j < n
   ·
    have hlt' : (j : Int) < n := by omega
    obtain ⟨s, hs⟩ : ∃ s, ss[j]? = some s := ⟨_, List.getElem?_eq_getElem (by rw [← HN.out]; exact hlt)⟩
    obtain ⟨b, ob, rfl, -⟩ := HZ.out.some (by have := HN.out; omega)
    obtain ⟨z0, z1, z2, z3, z4⟩ := (HZ.out.below hB).at hs
    obtain ⟨bx, hbx⟩ : ∃ bx, bx = wr.heap.size := ⟨_, rfl⟩
    obtain ⟨Y, hY⟩ : ∃ Y, Y = wr.alloc (.cells #[.int .i64 s.i, .int .i64 s.t, .int .i64 s.d, .int .i64 s.k, .string s.r] 52) := ⟨_, rfl⟩
    have hBY0 : Below wr.heap.size wr Y := by rw [hY]; exact (Below.refl _ _).alloc (Nat.le_refl _) _
    have bS : BoxL Y bx [.int .i64 s.i, .int .i64 s.t, .int .i64 s.d, .int .i64 s.k, .string s.r] := by rw [hY]; exact boxL_new wr _ _ hbx
    have BXY := BX2.below hBY0
    have BYY := BY2.below hBY0
    have hzY : w.heap.size < Y.heap.size := BXY.lt (by simp)
    have hbz : ¬ bx = w.heap.size := by have := BX2.lt (by simp); omega
    have hBw := Below.tr hB hBY0
    obtain ⟨zc, hzc⟩ : ∃ zc, zc = cancelTo ss j := ⟨_, rfl⟩
    rw [← hzc] at hZc
    have HZc : Hid (IsZ Y a c zc) := hZc.below hBY0
    have HNc : Hid (n = zc.length) := by show _ = _; rw [hzc, cancelTo_length]; exact HN.out
    obtain ⟨x, hx⟩ : ∃ x, x = cancelT ⟨s.i, s.t, s.d, s.k, s.r⟩ := ⟨_, rfl⟩
    have cF : ∀ W, Calls Try.prog 55 #[.agg #[.int .i64 s.i, .int .i64 s.t, .int .i64 s.d, .int .i64 s.k, .string s.r]] W fun e w' => e = .returned (vT x) ∧ Below W.heap.size W w' := fun W => by rw [hx]; exact refCancelT_any s.i s.t s.d s.k s.r W
    have hxt : x.r.size ≤ maxLen := by rw [hx]; exact cancel_text (HZ.out.text hs)
    obtain ⟨zn, hzn⟩ : ∃ zn, zn = cancelTo ss (j + 1) := ⟨_, rfl⟩
    have HZn : Hid (zn = setI zc j ⟨x.i, x.t, x.d, x.k, x.r⟩) := by show _ = _; rw [hzn, hzc, setI_nat, hx, cancelTo_succ hs]
    have HZN : Hid (zn = cancelTo ss (j + 1)) := hzn
    have f0 := BXY.1 0 _ rfl; have f1 := BXY.1 1 _ rfl; have f2 := BXY.1 2 _ rfl; have f3 := BXY.1 3 _ rfl; have f4 := BXY.1 4 _ rfl
    have b0 := bS.1 0 _ rfl; have b1 := bS.1 1 _ rfl; have b2 := bS.1 2 _ rfl; have b3 := bS.1 3 _ rfl; have b4 := bS.1 4 _ rfl
    clear hs hZc hzc hzn BX2 BY2 hB
    go_wp2
    rw [← hbx, ← hY]
    clear hbx z0 z1 z2 z3 z4
    refine region_chain (by kernel_rfl) [5] (withV ky nm ta tn tc is a n c j s x Y.heap.size zn) (withS Y w.heap.size ky nm ta tn tc is n zn) (Turns (fun k => k = w.heap.size)) (by kernel_rfl) (by kernel_rfl) (withV_mono hzY) (Below.refl _ _).drew ?step 6 rfl ?done
    case step =>
     clear hY
     intro i oo ho q a9 X hq hmay hS hdf hsz hdep hsame
     simp only [List.length_cons, List.length_nil] at hq
     match i, ho with
     | 0, ho =>
      cases ho
      have h1 := hsame 1 rfl
      have hq0 : q = 0 := by
       clear hS hdep hsame
       rcases (by omega : q = 0 ∨ q = 1) with rfl | rfl <;> first | rfl | exact absurd hmay (Bool.eq_false_iff.1 (by kernel_rfl))
      subst hq0
      have g0 := cell_below hS f0
      have g1 := cell_below hS f1
      have g2 := cell_below hS f2
      have g3 := cell_below hS f3
      have g4 := cell_below hS f4
      exact op_value rfl (wanted_free rfl) (by clear hdep hsame hsz hdf; go_simp) rfl (by rw [if_neg (by decide)]; exact hS) (Turns.refl _ _)
     | 1, ho =>
      cases ho
      have h3 := hsame 3 rfl
      exact op_value rfl (wanted_free rfl) (by clear hdep hsame hsz hdf; go_simp) rfl (by rw [if_neg (by decide)]; exact hS) (Turns.refl _ _)
     | 2, ho =>
      cases ho
      have h4 := hsame 4 rfl
      rcases (by omega : q = 0 ∨ q = 1) with rfl | rfl
      ·
       have g0 := cell_below hS b0
       have g1 := cell_below hS b1
       have g2 := cell_below hS b2
       have g3 := cell_below hS b3
       have g4 := cell_below hS b4
       exact op_value rfl (wanted_free rfl) (by clear hdep hsame hsz hdf; go_simp) rfl (by rw [if_neg (by decide)]; exact hS) (Turns.refl _ _)
      ·
       have g0 := hS.2.cell (p := ⟨bx, 0, none⟩) hbz b0
       have g1 := hS.2.cell (p := ⟨bx, 1, none⟩) hbz b1
       have g2 := hS.2.cell (p := ⟨bx, 2, none⟩) hbz b2
       have g3 := hS.2.cell (p := ⟨bx, 3, none⟩) hbz b3
       have g4 := hS.2.cell (p := ⟨bx, 4, none⟩) hbz b4
       exact op_value rfl (wanted_free rfl) (by clear hdep hsame hsz hdf; go_simp) rfl (by rw [if_neg (by decide)]; exact hS) (Turns.refl _ _)
     | 3, ho =>
      cases ho
      obtain ⟨_, h22, rfl⟩ := hdep 2 _ 22 rfl rfl rfl
      have hq0 : q = 0 := by
       clear hS hdep hsame
       rcases (by omega : q = 0 ∨ q = 1) with rfl | rfl <;> first | rfl | exact absurd hmay (Bool.eq_false_iff.1 (by kernel_rfl))
      subst hq0
      exact op_call rfl (wanted_free rfl) (by clear hdep hsame hsz hdf; go_simp) ((cF X).mono fun e X' hx => ⟨_, hx.1, rfl, by rw [if_neg (by decide)]; exact Below.tr hS hx.2, Turns.of_below hx.2⟩)
     | 4, ho =>
      cases ho
      obtain ⟨_, h20, rfl⟩ := hdep 0 _ 20 rfl rfl rfl
      obtain ⟨_, h21, rfl⟩ := hdep 1 _ 21 rfl rfl rfl
      obtain ⟨_, h23, rfl⟩ := hdep 3 _ 23 rfl rfl rfl
      have hq0 : q = 0 := by
       clear hS hdep hsame
       rcases (by omega : q = 0 ∨ q = 1) with rfl | rfl <;> first | rfl | exact absurd hmay (Bool.eq_false_iff.1 (by kernel_rfl))
      subst hq0
      refine op_call rfl (wanted_free rfl) (by clear hdep hsame hsz hdf; go_simp) ((cW is a c zc j x X (HZc.out.below hS) HNc.out hxt).mono ?_)
      rintro e X' ⟨a1, c1, rfl, hz1, hf1, hb1⟩
      exact ⟨_, rfl, ⟨a1, c1, rfl, by rw [HZn.out]; exact hz1, hf1.mono hS.size⟩, by rw [if_neg (by decide)]; exact Below.tr hS hb1, Turns.of_below hb1⟩
     | 5, ho =>
      cases ho
      have h1 := hsame 1 rfl
      obtain ⟨_, h24, a1, c1, rfl, hz1, hf1⟩ := hdep 4 _ 24 rfl rfl rfl
      have hq0 : q = 0 := by
       clear hS hdep hsame
       rcases (by omega : q = 0 ∨ q = 1) with rfl | rfl <;> first | rfl | exact absurd hmay (Bool.eq_false_iff.1 (by kernel_rfl))
      subst hq0
      have GX := BXY.below hS
      have g0 := GX.1 0 _ rfl
      have g1 := GX.1 1 _ rfl
      have g2 := GX.1 2 _ rfl
      have g3 := GX.1 3 _ rfl
      have g4 := GX.1 4 _ rfl
      have k0 := GX.2 0 (by simp)
      have k1 := GX.2 1 (by simp)
      have k2 := GX.2 2 (by simp)
      have k3 := GX.2 3 (by simp)
      have k4 := GX.2 4 (by simp)
      exact op_skip (w' := (((((X.setCell ⟨w.heap.size, 0, none⟩ (.string ky)).setCell ⟨w.heap.size, 1, none⟩ (.string nm)).setCell ⟨w.heap.size, 2, none⟩ (.slice ta tn tc)).setCell ⟨w.heap.size, 3, none⟩ (.int .i64 is)).setCell ⟨w.heap.size, 4, none⟩ (.slice a1 n c1))) rfl (wanted_free rfl) rfl (by clear hdep hsame hsz hdf hz1 hf1; go_simp) trivial (by rw [if_pos (by decide)]; exact withS_put hzY BXY hS hz1 hf1) (turns_set5 _ _ _ _ _ _ _)
     | k + 6, ho => simp at ho
    case done =>
     intro val V hS hV
     obtain ⟨⟨a1, c1, BV, hzV, hfV⟩, tV⟩ := hS
     have BYV := boxL_turns BYY tV (by omega)
     have hBV := Below.turns hBw tV (fun k hk => by omega)
     have HZV : Hid (IsZ V a1 c1 (cancelTo ss (j + 1))) := by rw [← HZN.out]; exact hzV
     have HAV : Hid (a1 = some ⟨b, ob, none⟩ ∨ From (w.heap.size + 2) a1) := .inr fun y hy => by have := hfV y hy; have := BYY.lt (by simp); omega
     clear hV hzV hfV cW f0 f1 f2 f3 f4 b0 b1 b2 b3 b4 hY BXY BYY bS
     simp [filledN]
     go_wp2
     go_roundw
     case rel => exact ⟨j + 1, a1, c1, by omega, by go_num, BV, BYV, HZV.out, HAV.out, hBV⟩
     case measure => simp [intOf]; omega
   ·
    obtain rfl : n = j := by omega
    have hx : ¬ (n : Int) < n := by omega
    obtain ⟨Z1, hZ1⟩ : ∃ Z1, Z1 = wr.setCell ⟨w.heap.size, 3, none⟩ (.int .i64 2) := ⟨_, rfl⟩
    have BX1' : BoxL Z1 w.heap.size [.string ky, .string nm, .slice ta tn tc, .int .i64 2, .slice a n c] := by rw [hZ1]; exact BX2.set 3 _
    have BY1' : BoxL Z1 (w.heap.size + 1) [.string ⟨#[]⟩, .string ⟨#[]⟩, .slice none 0 0, .int .i64 0, .slice none 0 0] := by rw [hZ1]; exact BY2.off (by omega)
    obtain ⟨Z, hZ9⟩ : ∃ Z, Z = (((((Z1.setCell ⟨w.heap.size + 1, 0, none⟩ (.string ky)).setCell ⟨w.heap.size + 1, 1, none⟩ (.string nm)).setCell ⟨w.heap.size + 1, 2, none⟩ (.slice ta tn tc)).setCell ⟨w.heap.size + 1, 3, none⟩ (.int .i64 2)).setCell ⟨w.heap.size + 1, 4, none⟩ (.slice a n c)) := ⟨_, rfl⟩
    have t1 : Turns (fun k => k = w.heap.size) wr Z1 := by rw [hZ1]; exact (Turns.refl (fun k => k = w.heap.size) wr).setCell (p := ⟨w.heap.size, 3, none⟩) rfl _
    have t2 : Turns (fun k => k = w.heap.size + 1) Z1 Z := by rw [hZ9]; exact turns_set5 _ _ _ _ _ _ _
    have BZ : BoxL Z (w.heap.size + 1) [.string ky, .string nm, .slice ta tn tc, .int .i64 2, .slice a n c] := by rw [hZ9]; exact boxL_set5 BY1' _ _ _ _ _
    have hBZ : Below w.heap.size w Z := Below.turns (Below.turns hB t1 (fun k hk => by omega)) t2 (fun k hk => by omega)
    have HF : Hid (IsZ Z a c (ss.map cancelT) ∧ Below w.heap.size w Z) := by
     have h1 : IsZ wr a c (ss.map cancelT) := by rw [← cancelTo_all, ← HN.out]; exact hZc
     refine ⟨?_, hBZ⟩
     refine h1.kept ((t1.mono (Q := fun k => k = w.heap.size ∨ k = w.heap.size + 1) fun k hk => .inl hk).trans (t2.mono fun k hk => .inr hk)) fun h0 y hy => ?_
     have h2 : y.block ≠ w.heap.size ∧ y.block ≠ w.heap.size + 1 := by
      rcases HA.out with e | e
      ·
       have := HZ.out.lies (by rw [← List.length_map (f := cancelT)]; exact h0) y (by rw [← e]; exact hy); omega
      ·
       have := e y hy; omega
     rintro (e | e)
     ·
      exact h2.1 e
     ·
      exact h2.2 e
    have x0 := BX2.1 0 _ rfl; have x1 := BX2.1 1 _ rfl; have x2 := BX2.1 2 _ rfl; have x3 := BX2.1 3 _ rfl; have x4 := BX2.1 4 _ rfl
    have e3 := BX2.2 3 (by simp)
    have y0 := BX1'.1 0 _ rfl; have y1 := BX1'.1 1 _ rfl; have y2 := BX1'.1 2 _ rfl; have y3 := BX1'.1 3 _ rfl; have y4 := BX1'.1 4 _ rfl
    have v0 := BY1'.1 0 _ rfl; have v1 := BY1'.1 1 _ rfl; have v2 := BY1'.1 2 _ rfl; have v3 := BY1'.1 3 _ rfl; have v4 := BY1'.1 4 _ rfl
    have d0 := BY1'.2 0 (by simp); have d1 := BY1'.2 1 (by simp); have d2 := BY1'.2 2 (by simp); have d3 := BY1'.2 3 (by simp); have d4 := BY1'.2 4 (by simp)
    have r0 := BZ.1 0 _ rfl; have r1 := BZ.1 1 _ rfl; have r2 := BZ.1 2 _ rfl; have r3 := BZ.1 3 _ rfl; have r4 := BZ.1 4 _ rfl
    rw [hZ1] at y0 y1 y2 y3 y4 v0 v1 v2 v3 v4 d0 d1 d2 d3 d4
    clear BX2 BY2 BX1' BY1' BZ t1 t2 hBZ hZc hB
    go_wp2
    rw [← hZ1, ← hZ9]
    refine bodyPost_ret (v := .agg #[.string ky, .string nm, .slice ta tn tc, .int .i64 2, .slice a n c]) (by simp [results, Try.results36, go_sem, r0, r1, r2, r3, r4]) rfl ?_
    have hfin : MadeC w ky nm ta tn tc 2 sa n (ss.map cancelT) (.agg #[.string ky, .string nm, .slice ta tn tc, .int .i64 2, .slice a n c]) Z := ⟨a, c, rfl, HF.out.1, by rw [List.length_map]; exact HN.out, HA.out.imp id (fun h => h.mono (by omega)), HF.out.2⟩
    first | exact ⟨_, rfl, hfin⟩ | (simpa using hfin)
 | false =>
  obtain ⟨MS, hMS⟩ : ∃ MS, MS = mendJ (plainT tv) ss n := ⟨_, rfl⟩
  obtain ⟨MI, hMI⟩ : ∃ MI : Int, MI = if allS MS = true then 1 else is := ⟨_, rfl⟩
  have hm : mendS (plainT tv) ss is = (MS, MI) := by
   unfold mendS
   rw [if_neg (by rw [h4]; decide), ← mendJ_all, ← hn, ← hMS, hMI]
   rfl
  rw [hm]
  rw [h4] at cH
  have HMS : Hid (MS = mendJ (plainT tv) ss n) := hMS
  have HMI : Hid (MI = if allS MS = true then 1 else is) := hMI
  have HML : Hid (n = MS.length) := by show _ = _; rw [hMS, mendJ_length]; exact hn
  clear hT htn hZ hn hnt hin h4 hm hMS hMI
  go_enter Try.func36, Try.ntmps36
  go_wp2_with (go_at_call 27; rw [← hW0]; refine cH.mono ?_; rintro e w1 ⟨rfl, hb⟩; have BX1 := BX.below hb; have BY1 := BY.below hb; have hB := Below.tr hB0 hb; clear f0 f1 f2 f3 f4; have x4 := BX1.1 4 _ rfl)
  clear x4
  go_loopw [31] (fun v wr => ∃ (j : Nat) (a : Option Addr) (c : Nat), j ≤ n ∧ v = .int .i64 j ∧ BoxL wr w.heap.size [.string ky, .string nm, .slice ta tn tc, .int .i64 is, .slice a n c] ∧ BoxL wr (w.heap.size + 1) [.string ⟨#[]⟩, .string ⟨#[]⟩, .slice none 0 0, .int .i64 0, .slice none 0 0] ∧ IsZ wr a c (mendJ (plainT tv) ss j) ∧ Hid (a = sa ∨ From (w.heap.size + 2) a) ∧ Below w.heap.size w wr) (fun v _ => n - (intOf v).toNat)
  case atStart => exact ⟨0, sa, sc, Nat.zero_le _, rfl, BX1, BY1, by rw [mendJ_zero]; exact (HZ.out.below hB0).below hb, .inl rfl, hB⟩
  case round =>
   clear BX1 BY1 hB
   obtain ⟨j, a, c, hj, rfl, BX2, BY2, hZc, HA, hB⟩ := hrel
   by_cases hlt : j < n
   ·
    have hlt' : (j : Int) < n := by omega
    obtain ⟨s, hs⟩ : ∃ s, ss[j]? = some s := ⟨_, List.getElem?_eq_getElem (by rw [← HN.out]; exact hlt)⟩
    obtain ⟨tk, htk⟩ : ∃ tk, tv[j]? = some tk := ⟨_, List.getElem?_eq_getElem (by have := HNT.out; have := HTN.out; omega)⟩
    obtain ⟨b, ob, rfl, -⟩ := HZ.out.some (by have := HN.out; omega)
    obtain ⟨z0, z1, z2, z3, z4⟩ := (HZ.out.below hB).at hs
    obtain ⟨bx, hbx⟩ : ∃ bx, bx = wr.heap.size := ⟨_, rfl⟩
    obtain ⟨Y0, hY⟩ : ∃ Y0, Y0 = wr.alloc (.cells #[.int .i64 s.i, .int .i64 s.t, .int .i64 s.d, .int .i64 s.k, .string s.r] 52) := ⟨_, rfl⟩
    have hBY0 : Below wr.heap.size wr Y0 := by rw [hY]; exact (Below.refl _ _).alloc (Nat.le_refl _) _
    have bS0 : BoxL Y0 bx [.int .i64 s.i, .int .i64 s.t, .int .i64 s.d, .int .i64 s.k, .string s.r] := by rw [hY]; exact boxL_new wr _ _ hbx
    have BX0 := BX2.below hBY0
    have BY0 := BY2.below hBY0
    have hzY0 : w.heap.size < Y0.heap.size := BX0.lt (by simp)
    have hbz : ¬ bx = w.heap.size := by have := BX2.lt (by simp); omega
    have hBw0 := Below.tr hB hBY0
    obtain ⟨zc, hzc⟩ : ∃ zc, zc = mendJ (plainT tv) ss j := ⟨_, rfl⟩
    rw [← hzc] at hZc
    have HNc : Hid (n = zc.length) := by show _ = _; rw [hzc, mendJ_length]; exact HN.out
    have e1 : readyI (plainT tv) zc j = readyI (plainT tv) ss j := by rw [hzc]; exact ready_same (mendJ_done _ ss j) j
    have cI := refIsReady_any ky nm ta tn tc is a n c zc tv j tk Y0 (hZc.below hBY0) HNc.out (HT.out.below hBw0) HTN.out htk (HIN.out j tk htk)
    rw [e1] at cI
    obtain ⟨F, hF⟩ : ∃ F, F = readyI (plainT tv) ss j := ⟨_, rfl⟩
    rw [← hF] at cI
    have HF : Hid (F = readyI (plainT tv) ss j) := hF
    have HZ0 : Hid (IsZ Y0 a c zc) := hZc.below hBY0
    have hsn : Hid (mendJ (plainT tv) ss (j + 1) = if readyI (plainT tv) ss j = true then zc.set j (readyT s) else zc) := by show _ = _; rw [mendJ_succ hs, ← hzc]
    obtain ⟨x, hx⟩ : ∃ x, x = readyT ⟨s.i, s.t, s.d, s.k, s.r⟩ := ⟨_, rfl⟩
    have cF : ∀ W, Calls Try.prog 78 #[.agg #[.int .i64 s.i, .int .i64 s.t, .int .i64 s.d, .int .i64 s.k, .string s.r]] W fun e w' => e = .returned (vT x) ∧ Below W.heap.size W w' := fun W => by rw [hx]; exact refReadyT_any s.i s.t s.d s.k s.r W
    have hxt : x.r.size ≤ maxLen := by rw [hx]; exact ready_text (HZ.out.text hs)
    have hxs : Hid (readyT s = x) := hx.symm
    have f0 := BX0.1 0 _ rfl; have f1 := BX0.1 1 _ rfl; have f2 := BX0.1 2 _ rfl; have f3 := BX0.1 3 _ rfl; have f4 := BX0.1 4 _ rfl
    cases F with
    | false =>
     have HE : Hid (mendJ (plainT tv) ss (j + 1) = zc) := by show _ = _; rw [hsn.out, ← HF.out]; rfl
     clear hs htk hZc hzc e1 hF hx BX2 BY2 hB cF
     rw [hY] at f0 f1 f2 f3 f4
     go_wp2_with (go_at_call 41; rw [← hbx, ← hY]; refine cI.mono ?_; rintro e w3 ⟨rfl, hb3⟩)
     go_roundw
     case rel => exact ⟨j + 1, a, c, by omega, by go_num, BX0.below hb3, BY0.below hb3, by rw [HE.out]; exact HZ0.out.below hb3, HA.out, Below.tr hBw0 hb3⟩
     case measure => simp [intOf]; omega
    | true =>
     obtain ⟨zn, hzn⟩ : ∃ zn, zn = mendJ (plainT tv) ss (j + 1) := ⟨_, rfl⟩
     have HZn : Hid (zn = setI zc j ⟨x.i, x.t, x.d, x.k, x.r⟩) := by show _ = _; rw [hzn, hsn.out, ← HF.out, if_pos rfl, setI_nat, hxs.out]
     have HZN : Hid (zn = mendJ (plainT tv) ss (j + 1)) := hzn
     clear hs htk hZc hzc e1 hF hx BX2 BY2 hB hzn
     rw [hY] at f0 f1 f2 f3 f4
     go_wp2_with (go_at_call 41; rw [← hbx, ← hY]; refine cI.mono ?_; rintro e Y ⟨rfl, hb3⟩; clear f0 f1 f2 f3 f4; have BXY := BX0.below hb3; have BYY := BY0.below hb3; have bS := bS0.below hb3; have hBw := Below.tr hBw0 hb3; have HZc : Hid (IsZ Y a c zc) := HZ0.out.below hb3; have hzY : w.heap.size < Y.heap.size := BXY.lt (by simp); have f0 := BXY.1 0 _ rfl; have f1 := BXY.1 1 _ rfl; have f2 := BXY.1 2 _ rfl; have f3 := BXY.1 3 _ rfl; have f4 := BXY.1 4 _ rfl; have b0 := bS.1 0 _ rfl; have b1 := bS.1 1 _ rfl; have b2 := bS.1 2 _ rfl; have b3 := bS.1 3 _ rfl; have b4 := bS.1 4 _ rfl)
     try rw [← hbx]
     clear hbx z0 z1 z2 z3 z4
     refine region_chain (by kernel_rfl) [5] (withV ky nm ta tn tc is a n c j s x Y.heap.size zn) (withS Y w.heap.size ky nm ta tn tc is n zn) (Turns (fun k => k = w.heap.size)) (by kernel_rfl) (by kernel_rfl) (withV_mono hzY) (Below.refl _ _).drew ?step 6 rfl ?done
     case step =>
      clear hY
      intro i oo ho q a9 X hq hmay hS hdf hsz hdep hsame
      simp only [List.length_cons, List.length_nil] at hq
      match i, ho with
      | 0, ho =>
       cases ho
       have h1 := hsame 1 rfl
       have hq0 : q = 0 := by
        clear hS hdep hsame
        rcases (by omega : q = 0 ∨ q = 1) with rfl | rfl <;> first | rfl | exact absurd hmay (Bool.eq_false_iff.1 (by kernel_rfl))
       subst hq0
       have g0 := cell_below hS f0
       have g1 := cell_below hS f1
       have g2 := cell_below hS f2
       have g3 := cell_below hS f3
       have g4 := cell_below hS f4
       exact op_value rfl (wanted_free rfl) (by clear hdep hsame hsz hdf; go_simp) rfl (by rw [if_neg (by decide)]; exact hS) (Turns.refl _ _)
      | 1, ho =>
       cases ho
       have h5 := hsame 5 rfl
       exact op_value rfl (wanted_free rfl) (by clear hdep hsame hsz hdf; go_simp) rfl (by rw [if_neg (by decide)]; exact hS) (Turns.refl _ _)
      | 2, ho =>
       cases ho
       have h6 := hsame 6 rfl
       rcases (by omega : q = 0 ∨ q = 1) with rfl | rfl
       ·
        have g0 := cell_below hS b0
        have g1 := cell_below hS b1
        have g2 := cell_below hS b2
        have g3 := cell_below hS b3
        have g4 := cell_below hS b4
        exact op_value rfl (wanted_free rfl) (by clear hdep hsame hsz hdf; go_simp) rfl (by rw [if_neg (by decide)]; exact hS) (Turns.refl _ _)
       ·
        have g0 := hS.2.cell (p := ⟨bx, 0, none⟩) hbz b0
        have g1 := hS.2.cell (p := ⟨bx, 1, none⟩) hbz b1
        have g2 := hS.2.cell (p := ⟨bx, 2, none⟩) hbz b2
        have g3 := hS.2.cell (p := ⟨bx, 3, none⟩) hbz b3
        have g4 := hS.2.cell (p := ⟨bx, 4, none⟩) hbz b4
        exact op_value rfl (wanted_free rfl) (by clear hdep hsame hsz hdf; go_simp) rfl (by rw [if_neg (by decide)]; exact hS) (Turns.refl _ _)
      | 3, ho =>
       cases ho
       obtain ⟨_, h41, rfl⟩ := hdep 2 _ 41 rfl rfl rfl
       have hq0 : q = 0 := by
        clear hS hdep hsame
        rcases (by omega : q = 0 ∨ q = 1) with rfl | rfl <;> first | rfl | exact absurd hmay (Bool.eq_false_iff.1 (by kernel_rfl))
       subst hq0
       exact op_call rfl (wanted_free rfl) (by clear hdep hsame hsz hdf; go_simp) ((cF X).mono fun e X' hx => ⟨_, hx.1, rfl, by rw [if_neg (by decide)]; exact Below.tr hS hx.2, Turns.of_below hx.2⟩)
      | 4, ho =>
       cases ho
       obtain ⟨_, h39, rfl⟩ := hdep 0 _ 39 rfl rfl rfl
       obtain ⟨_, h40, rfl⟩ := hdep 1 _ 40 rfl rfl rfl
       obtain ⟨_, h42, rfl⟩ := hdep 3 _ 42 rfl rfl rfl
       have hq0 : q = 0 := by
        clear hS hdep hsame
        rcases (by omega : q = 0 ∨ q = 1) with rfl | rfl <;> first | rfl | exact absurd hmay (Bool.eq_false_iff.1 (by kernel_rfl))
       subst hq0
       refine op_call rfl (wanted_free rfl) (by clear hdep hsame hsz hdf; go_simp) ((cW is a c zc j x X (HZc.out.below hS) HNc.out hxt).mono ?_)
       rintro e X' ⟨a1, c1, rfl, hz1, hf1, hb1⟩
       exact ⟨_, rfl, ⟨a1, c1, rfl, by rw [HZn.out]; exact hz1, hf1.mono hS.size⟩, by rw [if_neg (by decide)]; exact Below.tr hS hb1, Turns.of_below hb1⟩
      | 5, ho =>
       cases ho
       have h1 := hsame 1 rfl
       obtain ⟨_, h43, a1, c1, rfl, hz1, hf1⟩ := hdep 4 _ 43 rfl rfl rfl
       have hq0 : q = 0 := by
        clear hS hdep hsame
        rcases (by omega : q = 0 ∨ q = 1) with rfl | rfl <;> first | rfl | exact absurd hmay (Bool.eq_false_iff.1 (by kernel_rfl))
       subst hq0
       have GX := BXY.below hS
       have g0 := GX.1 0 _ rfl
       have g1 := GX.1 1 _ rfl
       have g2 := GX.1 2 _ rfl
       have g3 := GX.1 3 _ rfl
       have g4 := GX.1 4 _ rfl
       have k0 := GX.2 0 (by simp)
       have k1 := GX.2 1 (by simp)
       have k2 := GX.2 2 (by simp)
       have k3 := GX.2 3 (by simp)
       have k4 := GX.2 4 (by simp)
       exact op_skip (w' := (((((X.setCell ⟨w.heap.size, 0, none⟩ (.string ky)).setCell ⟨w.heap.size, 1, none⟩ (.string nm)).setCell ⟨w.heap.size, 2, none⟩ (.slice ta tn tc)).setCell ⟨w.heap.size, 3, none⟩ (.int .i64 is)).setCell ⟨w.heap.size, 4, none⟩ (.slice a1 n c1))) rfl (wanted_free rfl) rfl (by clear hdep hsame hsz hdf hz1 hf1; go_simp) trivial (by rw [if_pos (by decide)]; exact withS_put hzY BXY hS hz1 hf1) (turns_set5 _ _ _ _ _ _ _)
      | k + 6, ho => simp at ho
     case done =>
      intro val V hS hV
      obtain ⟨⟨a1, c1, BV, hzV, hfV⟩, tV⟩ := hS
      have BYV := boxL_turns BYY tV (by omega)
      have hBV := Below.turns hBw tV (fun k hk => by omega)
      have HZV : Hid (IsZ V a1 c1 (mendJ (plainT tv) ss (j + 1))) := by rw [← HZN.out]; exact hzV
      have HAV : Hid (a1 = some ⟨b, ob, none⟩ ∨ From (w.heap.size + 2) a1) := .inr fun y hy => by have := hfV y hy; have := BYY.lt (by simp); omega
      clear hV hzV hfV cW f0 f1 f2 f3 f4 b0 b1 b2 b3 b4 hY BXY BYY bS
      simp [filledN]
      go_wp2
      go_roundw
      case rel => exact ⟨j + 1, a1, c1, by omega, by go_num, BV, BYV, HZV.out, HAV.out, hBV⟩
      case measure => simp [intOf]; omega
   ·
    obtain rfl : n = j := by omega
    have hx : ¬ (n : Int) < n := by omega
    have x4 := BX2.1 4 _ rfl
    rw [← HMS.out] at hZc
    go_wp2
    clear x4
    obtain ⟨wo, hwo⟩ : ∃ wo, wo = wr := ⟨_, rfl⟩
    subst hwo
    go_loopw [7, 48] (fun q v wr => ∃ j : Nat, j ≤ n ∧ q = .bool (allS (MS.take j)) ∧ v = .int .i64 j ∧ Below wo.heap.size wo wr) (fun _ v _ => n - (intOf v).toNat)
    case atStart => exact ⟨0, Nat.zero_le _, rfl, rfl, Below.refl _ _⟩
    case round =>
     obtain ⟨j, hj, rfl, rfl, hB2⟩ := hrel
     by_cases hlt : j < n
     ·
      have hlt' : (j : Int) < n := by omega
      obtain ⟨s, hs⟩ : ∃ s, MS[j]? = some s := ⟨_, List.getElem?_eq_getElem (by rw [← HML.out]; exact hlt)⟩
      have hZ2 := hZc.below hB2
      obtain ⟨b, ob, rfl, -⟩ := hZ2.some (by have := HML.out; omega)
      obtain ⟨z0, z1, z2, z3, z4⟩ := hZ2.at hs
      obtain ⟨hc1, hc2⟩ : n ≤ c ∧ c ≤ 9223372036854775807 := ⟨by rw [HML.out]; exact hZ2.1, hZ2.2.1⟩
      have hall : Hid (allS (MS.take (j + 1)) = (allS (MS.take j) && decide (s.i = 3))) := by
       show _ = _
       unfold allS
       rw [List.take_add_one, hs, List.all_append]
       simp
      obtain ⟨A, hA⟩ : ∃ A, A = allS (MS.take j) := ⟨_, rfl⟩
      rw [← hA] at hall ⊢
      obtain ⟨Y, hY⟩ : ∃ Y, Y = wr.alloc (.cells #[.int .i64 s.i, .int .i64 s.t, .int .i64 s.d, .int .i64 s.k, .string s.r] 52) := ⟨_, rfl⟩
      have hBY : Below wo.heap.size wo Y := by rw [hY]; exact hB2.alloc hB2.size _
      obtain ⟨si, st, sd, sk, sr⟩ := s
      dsimp only at *
      have h3 : Hid ((si == 3) = decide (si = 3)) := by show _ = _; by_cases h : si = 3 <;> simp [h]
      clear hA hs hZ2
      cases A
      ·
       go_wp2
       rw [← hY]
       go_roundw
       case rel => exact ⟨j + 1, by omega, by rw [hall.out]; rfl, by go_num, hBY⟩
       case measure => simp [intOf]; omega
      ·
       go_wp2
       rw [← hY]
       go_roundw
       case rel => exact ⟨j + 1, by omega, by rw [hall.out, ← h3.out]; rfl, by go_num, hBY⟩
       case measure => simp [intOf]; omega
     ·
      obtain rfl : n = j := by omega
      rw [HML.out, List.take_length]
      have hB3 := Below.tr hB hB2
      have BX3 := BX2.below hB2
      have BY3 := BY2.below hB2
      have hZ3 := hZc.below hB2
      have HAA := HA
      have HB9 : Hid (IsZ wr a c MS) := hZ3
      obtain ⟨A, hA⟩ : ∃ A, A = allS MS := ⟨_, rfl⟩
      rw [← hA]
      have HMI2 : Hid (MI = if A = true then 1 else is) := by rw [hA]; exact HMI.out
      clear hA hZ3 hZc BX2 BY2
      rw [← HML.out]
      cases A
      ·
       have e : Hid (MI = is) := by show _ = _; rw [HMI2.out]; rfl
       obtain ⟨Z1, hZ1⟩ : ∃ Z1, Z1 = wr := ⟨_, rfl⟩
       have t1 : Turns (fun k => k = w.heap.size) wr Z1 := by rw [hZ1]; exact Turns.refl _ _
       have BX1' : BoxL Z1 w.heap.size [.string ky, .string nm, .slice ta tn tc, .int .i64 is, .slice a n c] := by rw [hZ1]; exact BX3
       have BY1' : BoxL Z1 (w.heap.size + 1) [.string ⟨#[]⟩, .string ⟨#[]⟩, .slice none 0 0, .int .i64 0, .slice none 0 0] := by rw [hZ1]; exact BY3
       obtain ⟨Z, hZ9⟩ : ∃ Z, Z = (((((Z1.setCell ⟨w.heap.size + 1, 0, none⟩ (.string ky)).setCell ⟨w.heap.size + 1, 1, none⟩ (.string nm)).setCell ⟨w.heap.size + 1, 2, none⟩ (.slice ta tn tc)).setCell ⟨w.heap.size + 1, 3, none⟩ (.int .i64 is)).setCell ⟨w.heap.size + 1, 4, none⟩ (.slice a n c)) := ⟨_, rfl⟩
       have t2 : Turns (fun k => k = w.heap.size + 1) Z1 Z := by rw [hZ9]; exact turns_set5 _ _ _ _ _ _ _
       have BZ : BoxL Z (w.heap.size + 1) [.string ky, .string nm, .slice ta tn tc, .int .i64 is, .slice a n c] := by rw [hZ9]; exact boxL_set5 BY1' _ _ _ _ _
       have hBZ : Below w.heap.size w Z := Below.turns (Below.turns hB3 t1 (fun k hk => by omega)) t2 (fun k hk => by omega)
       have HF : Hid (IsZ Z a c MS ∧ Below w.heap.size w Z) := by
        refine ⟨?_, hBZ⟩
        refine HB9.out.kept ((t1.mono (Q := fun k => k = w.heap.size ∨ k = w.heap.size + 1) fun k hk => .inl hk).trans (t2.mono fun k hk => .inr hk)) fun h0 y hy => ?_
        have h2 : y.block ≠ w.heap.size ∧ y.block ≠ w.heap.size + 1 := by
         rcases HAA.out with e | e
         ·
          have := HZ.out.lies (by rw [← HN.out, HML.out]; exact h0) y (by rw [← e]; exact hy); omega
         ·
          have := e y hy; omega
        rintro (e | e)
        ·
         exact h2.1 e
        ·
         exact h2.2 e
       have g3 := BX3.1 3 _ rfl
       have e3 := BX3.2 3 (by simp)
       have y0 := BX1'.1 0 _ rfl; have y1 := BX1'.1 1 _ rfl; have y2 := BX1'.1 2 _ rfl; have y3 := BX1'.1 3 _ rfl; have y4 := BX1'.1 4 _ rfl
       have v0 := BY1'.1 0 _ rfl; have v1 := BY1'.1 1 _ rfl; have v2 := BY1'.1 2 _ rfl; have v3 := BY1'.1 3 _ rfl; have v4 := BY1'.1 4 _ rfl
       have d0 := BY1'.2 0 (by simp); have d1 := BY1'.2 1 (by simp); have d2 := BY1'.2 2 (by simp); have d3 := BY1'.2 3 (by simp); have d4 := BY1'.2 4 (by simp)
       have r0 := BZ.1 0 _ rfl; have r1 := BZ.1 1 _ rfl; have r2 := BZ.1 2 _ rfl; have r3 := BZ.1 3 _ rfl; have r4 := BZ.1 4 _ rfl
       rw [hZ1] at y0 y1 y2 y3 y4 v0 v1 v2 v3 v4 d0 d1 d2 d3 d4
       clear BX3 BY3 BX1' BY1' BZ t1 t2 hBZ hB3 hB2 hB
       go_wp2
       first | rw [← hZ1, ← hZ9] | (rw [hZ1] at hZ9; rw [← hZ9])
       rw [e.out]
       refine bodyPost_ret (v := .agg #[.string ky, .string nm, .slice ta tn tc, .int .i64 is, .slice a n c]) (by simp [results, Try.results36, go_sem, r0, r1, r2, r3, r4]) rfl ?_
       have hfin : MadeC w ky nm ta tn tc is sa n MS (.agg #[.string ky, .string nm, .slice ta tn tc, .int .i64 is, .slice a n c]) Z := ⟨a, c, rfl, HF.out.1, HML.out, HAA.out.imp id (fun h => h.mono (by omega)), HF.out.2⟩
       first | exact ⟨_, rfl, hfin⟩ | (simpa using hfin)
      ·
       have e : Hid (MI = 1) := by show _ = _; rw [HMI2.out]; rfl
       obtain ⟨Z1, hZ1⟩ : ∃ Z1, Z1 = wr.setCell ⟨w.heap.size, 3, none⟩ (.int .i64 1) := ⟨_, rfl⟩
       have t1 : Turns (fun k => k = w.heap.size) wr Z1 := by rw [hZ1]; exact (Turns.refl (fun k => k = w.heap.size) wr).setCell (p := ⟨w.heap.size, 3, none⟩) rfl _
       have BX1' : BoxL Z1 w.heap.size [.string ky, .string nm, .slice ta tn tc, .int .i64 1, .slice a n c] := by rw [hZ1]; exact BX3.set 3 _
       have BY1' : BoxL Z1 (w.heap.size + 1) [.string ⟨#[]⟩, .string ⟨#[]⟩, .slice none 0 0, .int .i64 0, .slice none 0 0] := by rw [hZ1]; exact BY3.off (by omega)
       obtain ⟨Z, hZ9⟩ : ∃ Z, Z = (((((Z1.setCell ⟨w.heap.size + 1, 0, none⟩ (.string ky)).setCell ⟨w.heap.size + 1, 1, none⟩ (.string nm)).setCell ⟨w.heap.size + 1, 2, none⟩ (.slice ta tn tc)).setCell ⟨w.heap.size + 1, 3, none⟩ (.int .i64 1)).setCell ⟨w.heap.size + 1, 4, none⟩ (.slice a n c)) := ⟨_, rfl⟩
       have t2 : Turns (fun k => k = w.heap.size + 1) Z1 Z := by rw [hZ9]; exact turns_set5 _ _ _ _ _ _ _
       have BZ : BoxL Z (w.heap.size + 1) [.string ky, .string nm, .slice ta tn tc, .int .i64 1, .slice a n c] := by rw [hZ9]; exact boxL_set5 BY1' _ _ _ _ _
       have hBZ : Below w.heap.size w Z := Below.turns (Below.turns hB3 t1 (fun k hk => by omega)) t2 (fun k hk => by omega)
       have HF : Hid (IsZ Z a c MS ∧ Below w.heap.size w Z) := by
        refine ⟨?_, hBZ⟩
        refine HB9.out.kept ((t1.mono (Q := fun k => k = w.heap.size ∨ k = w.heap.size + 1) fun k hk => .inl hk).trans (t2.mono fun k hk => .inr hk)) fun h0 y hy => ?_
        have h2 : y.block ≠ w.heap.size ∧ y.block ≠ w.heap.size + 1 := by
         rcases HAA.out with e | e
         ·
          have := HZ.out.lies (by rw [← HN.out, HML.out]; exact h0) y (by rw [← e]; exact hy); omega
         ·
          have := e y hy; omega
        rintro (e | e)
        ·
         exact h2.1 e
        ·
         exact h2.2 e
       have g3 := BX3.1 3 _ rfl
       have e3 := BX3.2 3 (by simp)
       have y0 := BX1'.1 0 _ rfl; have y1 := BX1'.1 1 _ rfl; have y2 := BX1'.1 2 _ rfl; have y3 := BX1'.1 3 _ rfl; have y4 := BX1'.1 4 _ rfl
       have v0 := BY1'.1 0 _ rfl; have v1 := BY1'.1 1 _ rfl; have v2 := BY1'.1 2 _ rfl; have v3 := BY1'.1 3 _ rfl; have v4 := BY1'.1 4 _ rfl
       have d0 := BY1'.2 0 (by simp); have d1 := BY1'.2 1 (by simp); have d2 := BY1'.2 2 (by simp); have d3 := BY1'.2 3 (by simp); have d4 := BY1'.2 4 (by simp)
       have r0 := BZ.1 0 _ rfl; have r1 := BZ.1 1 _ rfl; have r2 := BZ.1 2 _ rfl; have r3 := BZ.1 3 _ rfl; have r4 := BZ.1 4 _ rfl
       rw [hZ1] at y0 y1 y2 y3 y4 v0 v1 v2 v3 v4 d0 d1 d2 d3 d4
       clear BX3 BY3 BX1' BY1' BZ t1 t2 hBZ hB3 hB2 hB
       go_wp2
       first | rw [← hZ1, ← hZ9] | (rw [hZ1] at hZ9; rw [← hZ9])
       rw [e.out]
       refine bodyPost_ret (v := .agg #[.string ky, .string nm, .slice ta tn tc, .int .i64 1, .slice a n c]) (by simp [results, Try.results36, go_sem, r0, r1, r2, r3, r4]) rfl ?_
       have hfin : MadeC w ky nm ta tn tc 1 sa n MS (.agg #[.string ky, .string nm, .slice ta tn tc, .int .i64 1, .slice a n c]) Z := ⟨a, c, rfl, HF.out.1, HML.out, HAA.out.imp id (fun h => h.mono (by omega)), HF.out.2⟩
       first | exact ⟨_, rfl, hfin⟩ | (simpa using hfin)
end Go.Proofs.Ytpjaeaepifpmjaa
namespace Go.Proofs.Ytpjaeaepifpmjaa
open Go.RowKit Plain
set_option linter.unusedVariables false
theorem zerosS_succ (j : Nat) : zerosS (j + 1) = zerosS j ++ [zeroT] := by unfold zerosS; rw [List.replicate_succ']
theorem zerosS_length (j : Nat) : (zerosS j).length = j := by unfold zerosS; rw [List.length_replicate]
set_option maxRecDepth 20000 in
set_option maxHeartbeats 4000000 in
theorem refNew_any (ky nm : ByteArray) (ta : Option Addr) (n tc : Nat) (tv : List TaskV) (w : World) (hT : IsT w ta tc tv) (htn : n = tv.length) (h10 : n ≤ 10) (hin : ∀ (i : Nat) t, tv[i]? = some t → ∀ x ∈ t.ns, 0 ≤ x ∧ x < n) :
  Calls Try.prog 13 #[.string ky, .agg #[.string nm, .slice ta n tc]] w fun e w' => ∃ a c, e = .returned (.agg #[.string ky, .string nm, .slice ta n tc, .int .i64 (mendS (plainT tv) (zerosS tv.length) 0).2, .slice a n c]) ∧ IsZ w' a c (mendS (plainT tv) (zerosS tv.length) 0).1 ∧ n = (mendS (plainT tv) (zerosS tv.length) 0).1.length ∧ Below w.heap.size w w' := by
 have HTN : Hid (n = tv.length) := htn
 have HT : Hid (IsT w ta tc tv) := hT
 obtain ⟨MS, hMS⟩ : ∃ MS, MS = mendS (plainT tv) (zerosS tv.length) 0 := ⟨_, rfl⟩
 have HMS : Hid (MS = mendS (plainT tv) (zerosS tv.length) 0) := hMS
 rw [← hMS]
 have cM := fun W a c (h : Below w.heap.size w W) (hz : IsZ W a c (zerosS n)) => refMend_any ky nm ta n tc 0 a n c tv (zerosS n) W (hT.below h) htn hz (zerosS_length n).symm rfl h10 hin
 have e0 : mendS (plainT tv) (zerosS n) 0 = MS := by rw [hMS, htn]
 rw [e0] at cM
 clear hT htn hin hMS e0
 go_enter Try.func13, Try.ntmps13
 go_wp2
 go_loopw [12] (fun v wr => ∃ (j : Nat) (u : Value), j ≤ n ∧ v = .int .i64 j ∧ RwAt wr (w.heap.size + 1 + 1) (w.heap.size + 1 + 1 + 1) (.string ky) (.string nm) (.slice ta n tc) (.int .i64 0) u (zerosS j) ∧ BoxL wr (w.heap.size + 1) [.string ⟨#[]⟩, .string ⟨#[]⟩, .slice none 0 0, .int .i64 0, .slice none 0 0] ∧ Below w.heap.size w wr) (fun v _ => n - (intOf v).toNat)
 case atStart =>
  refine ⟨0, .slice none 0 0, by omega, rfl, ⟨boxL_new _ [.string ky, .string nm, .slice ta n tc, .int .i64 0, .slice none 0 0] 27 (by simp), ⟨by simp [cellsZ, zerosS], .inl ⟨rfl, rfl⟩⟩, by simp, by omega⟩, ?_, ?_⟩
  ·
   exact (boxL_new _ [.string ⟨#[]⟩, .string ⟨#[]⟩, .slice none 0 0, .int .i64 0, .slice none 0 0] 27 (by simp)).alloc _
  ·
   exact bel3 w _ _ _
 case round =>
  obtain ⟨j, u, hj, rfl, R, bo, hB⟩ := hrel
  have hsz := hB.size
  have q4 := R.box.1 4 _ rfl
  have f4 := R.box.2 4 (by simp)
  by_cases hlt : j < n
  ·
   have hlt' : (j : Int) < n := by omega
   obtain ⟨g, cap, w5, hrun, hbox, R2, T2⟩ := R.push zeroT (by rw [zerosS_length]; omega)
   rw [zerosS_length, ← zerosS_succ] at R2
   rw [zerosS_length] at hrun T2
   have bo2 := boxL_turns bo T2 (by rintro (h | h) <;> omega)
   have hB2 := Below.turns hB T2 (by rintro i (h | h) <;> omega)
   have c4 := hbox.1 4 _ rfl
   have d4 := hbox.2 4 (by simp)
   have hrun' : (Builtin.append_ #[25, 25] 25 #[u, .slice (some ⟨wr.heap.size, 0, none⟩) 1 1]).run Try.prog (wr.alloc (.cells #[.int .i64 0, .int .i64 0, .int .i64 0, .int .i64 0, .string ⟨#[]⟩] 52)) = .ok (.slice (some ⟨g, 0, none⟩) (j + 1) cap) w5 := hrun
   have q4' := cell_alloc q4
   clear R T2 bo hbox hrun cM
   go_wp2_with (at_builtin; refine Lib.wpList_append_run _ rfl _ _ _ _ rfl _ _ rfl rfl _ _ hrun' ?_)
   go_roundw
   case rel => exact ⟨j + 1, _, by omega, by go_num, R2, bo2, hB2⟩
   case measure => simp [intOf]; omega
  ·
   obtain rfl : n = j := by omega
   have hx : ¬ (n : Int) < n := by omega
   have hown := R.row
   rw [zerosS_length] at hown
   obtain ⟨a', c', hv, hZ', hF⟩ := owned_isZ hown (zerosS_length n).symm (fun s hs => by
    unfold zerosS at hs
    rw [List.eq_of_mem_replicate hs]
    exact Nat.zero_le _)
   subst hv
   have cM2 := cM wr a' c' hB hZ'
   have x0 := R.box.1 0 _ rfl; have x1 := R.box.1 1 _ rfl; have x2 := R.box.1 2 _ rfl; have x3 := R.box.1 3 _ rfl; have x4 := R.box.1 4 _ rfl
   clear R hown cM
   go_wp2_with (go_at_call 36; refine cM2.mono ?_; rintro e w6 ⟨v, rfl, a1, c1, rfl, hz1, hl1, hs1, hb1⟩; have BY := bo.below hb1; have hB3 := Below.tr hB hb1; have HK : Hid (IsZ w6 a1 c1 MS.1 ∧ n = MS.1.length ∧ (a1 = a' ∨ From wr.heap.size a1)) := ⟨hz1, hl1, hs1⟩; clear hz1 hl1 hs1; have y0 := BY.1 0 _ rfl; have y1 := BY.1 1 _ rfl; have y2 := BY.1 2 _ rfl; have y3 := BY.1 3 _ rfl; have y4 := BY.1 4 _ rfl; have d0 := BY.2 0 (by simp); have d1 := BY.2 1 (by simp); have d2 := BY.2 2 (by simp); have d3 := BY.2 3 (by simp); have d4 := BY.2 4 (by simp))
   obtain ⟨Z, hZ⟩ : ∃ Z, Z = (((((w6.setCell ⟨w.heap.size + 1, 0, none⟩ (.string ky)).setCell ⟨w.heap.size + 1, 1, none⟩ (.string nm)).setCell ⟨w.heap.size + 1, 2, none⟩ (.slice ta n tc)).setCell ⟨w.heap.size + 1, 3, none⟩ (.int .i64 MS.2)).setCell ⟨w.heap.size + 1, 4, none⟩ (.slice a1 n c1)) := ⟨_, rfl⟩
   have BZ : BoxL Z (w.heap.size + 1) [.string ky, .string nm, .slice ta n tc, .int .i64 MS.2, .slice a1 n c1] := by rw [hZ]; exact boxL_set5 BY _ _ _ _ _
   have TZ : Turns (fun k => k = w.heap.size + 1) w6 Z := by rw [hZ]; exact turns_set5 _ _ _ _ _ _ _
   have hBZ := Below.turns hB3 TZ (fun k hk => by omega)
   have hlo : w.heap.size + 2 ≤ wr.heap.size := by have := bo.lt (by simp); omega
   have HF : IsZ Z a1 c1 MS.1 := HK.out.1.kept TZ fun h0 y hy => by
    show ¬ y.block = w.heap.size + 1
    rcases HK.out.2.2 with e | e
    ·
     have := hF y (by rw [← e]; exact hy); omega
    ·
     have := e y hy; omega
   rw [← hZ]
   have r0 := BZ.1 0 _ rfl; have r1 := BZ.1 1 _ rfl; have r2 := BZ.1 2 _ rfl; have r3 := BZ.1 3 _ rfl; have r4 := BZ.1 4 _ rfl
   refine bodyPost_ret (v := .agg #[.string ky, .string nm, .slice ta n tc, .int .i64 MS.2, .slice a1 n c1]) (by simp [results, Try.results13, go_sem, r0, r1, r2, r3, r4]) rfl ⟨a1, c1, rfl, HF, HK.out.2.1, hBZ⟩
end Go.Proofs.Ytpjaeaepifpmjaa
namespace Go.Proofs.Ytpjaeaepifpmjaa
open Go.RowKit Plain Anylast
set_option linter.unusedVariables false
def atI (o : Option Nat) : Int := match o with | none => -1 | some j => j
theorem over_take (ss : List StP) (u : Int) (j : Nat) : (List.range (j + 1)).foldl (stepO ss u) none = stepO ss u ((List.range j).foldl (stepO ss u) none) j := by rw [List.range_succ, List.foldl_append]; rfl
theorem stepO_no {ss : List StP} {u : Int} {o : Option Nat} {j : Nat} {s : StP} (hs : ss[j]? = some s) (h : ¬ (s.i = 2 ∧ s.d ≤ u)) : stepO ss u o j = o := by
 unfold stepO; rw [hs]; exact if_neg h
theorem stepO_first {ss : List StP} {u : Int} {j : Nat} {s : StP} (hs : ss[j]? = some s) (h : s.i = 2 ∧ s.d ≤ u) : stepO ss u none j = some j := by
 unfold stepO; rw [hs]; exact if_pos h
theorem stepO_more {ss : List StP} {u : Int} {j f : Nat} {s v : StP} (hs : ss[j]? = some s) (h : s.i = 2 ∧ s.d ≤ u) (hf : ss[f]? = some v) : stepO ss u (some f) j = if s.d < v.d then some j else some f := by
 unfold stepO; rw [hs]; simp only; rw [if_pos h, hf]
def rA (bx : Nat) (sd now u : Int) (d : Bool) : Nat → Value
 | 0 => .pointer (some ⟨bx, 0, none⟩) | 1 => .int .i64 2 | 2 => .bool true | 3 => .bool true | 4 => .pointer (some ⟨bx, 2, none⟩) | 5 => .int .i64 sd | 6 => .int .i64 now | 7 => .int .i64 u | 8 => .bool d | 9 => .bool d | _ => undef
def rB (bx : Nat) (si : Int) : Nat → Value
 | 0 => .pointer (some ⟨bx, 0, none⟩) | 1 => .int .i64 si | 2 => .bool false | 3 => .bool false | 9 => .bool false | _ => undef
set_option maxRecDepth 20000 in
set_option maxHeartbeats 2000000 in
theorem refOver_any (ky nm : ByteArray) (ta : Option Addr) (tn tc : Nat) (is : Int) (sa : Option Addr) (n sc : Nat) (tv : List TaskV) (ss : List StP) (now : Int) (w : World) (hT : IsT w ta tc tv) (htn : tn = tv.length) (hZ : IsZ w sa sc ss) (hn : n = ss.length) (hnow : now ≤ 9223372036854775807) :
  Calls Try.prog 46 #[.agg #[.string ky, .string nm, .slice ta tn tc, .int .i64 is, .slice sa n sc], .int .i64 now] w fun e w' => e = .returned (.int .i64 (atI (overN ss (untF now [])))) ∧ Below w.heap.size w w' := by
 have hB0 : Below w.heap.size w (w.alloc (.cells #[.string ky, .string nm, .slice ta tn tc, .int .i64 is, .slice sa n sc] 27)) := (Below.refl _ _).alloc (Nat.le_refl _) _
 have X0 : RunIn (w.alloc (.cells #[.string ky, .string nm, .slice ta tn tc, .int .i64 is, .slice sa n sc] 27)) w.heap.size ky nm ta tn tc is sa n sc tv ss := ⟨boxL_new w [.string ky, .string nm, .slice ta tn tc, .int .i64 is, .slice sa n sc] _ rfl, hT.below hB0, hZ.below hB0, htn, hn⟩
 have cT := fun W => refTime_any now W hnow
 obtain ⟨u, hu⟩ : ∃ u, u = untF now [] := ⟨_, rfl⟩
 rw [← hu] at cT ⊢
 have hnm : n ≤ 9223372036854775807 := by rw [hn]; exact hZ.size
 have HN : Hid (n = ss.length) := hn
 obtain ⟨FR, hFR⟩ : ∃ FR, FR = atI (overN ss u) := ⟨_, rfl⟩
 rw [← hFR]
 have HFR : Hid (FR = atI (overN ss u)) := hFR
 have x4 := X0.box.1 4 _ rfl
 clear hT htn hZ hn hu hFR
 go_enter Try.func46, Try.ntmps46
 go_wp2
 clear x4
 go_loopw [5, 11] (fun a v wr => ∃ j : Nat, j ≤ n ∧ a = .int .i64 (atI ((List.range j).foldl (stepO ss u) none)) ∧ v = .int .i64 j ∧ RunIn wr w.heap.size ky nm ta tn tc is sa n sc tv ss ∧ Below w.heap.size w wr) (fun _ v _ => n - (intOf v).toNat)
 case atStart => exact ⟨0, Nat.zero_le _, rfl, rfl, X0, hB0⟩
 case round =>
  clear X0 hB0
  obtain ⟨j, hj, rfl, rfl, X, hB⟩ := hrel
  obtain ⟨o, ho⟩ : ∃ o, o = (List.range j).foldl (stepO ss u) none := ⟨_, rfl⟩
  have HO : Hid (o = (List.range j).foldl (stepO ss u) none) := ho
  rw [← ho]
  by_cases hlt : j < n
  ·
   have hlt' : (j : Int) < n := by omega
   obtain ⟨hb1, hb2, hb3, hb4⟩ := X.bounds
   obtain ⟨s, hs⟩ : ∃ s, ss[j]? = some s := ⟨_, List.getElem?_eq_getElem (by rw [← HN.out]; exact hlt)⟩
   obtain ⟨b, ob, rfl, -⟩ := X.hZ.some (by have := HN.out; omega)
   obtain ⟨z0, z1, z2, z3, z4⟩ := X.hZ.at hs
   have hst : Hid ((List.range (j + 1)).foldl (stepO ss u) none = stepO ss u o j) := by show _ = _; rw [over_take, ← ho]
   have hof : ∀ f, o = some f → ∃ sf, ss[f]? = some sf := fun f hf => by
    have := overTo_fold ss u j
    rw [← ho, hf] at this
    obtain ⟨_, v, hv, _⟩ := this
    exact ⟨v, hv⟩
   obtain ⟨Y, hY⟩ : ∃ Y, Y = wr.alloc (.cells #[.int .i64 s.i, .int .i64 s.t, .int .i64 s.d, .int .i64 s.k, .string s.r] 52) := ⟨_, rfl⟩
   have XY : RunIn Y.drew w.heap.size ky nm ta tn tc is (some ⟨b, ob, none⟩) n sc tv ss := by rw [hY]; exact (X.alloc _).drew
   have bS : BoxL Y.drew wr.heap.size [.int .i64 s.i, .int .i64 s.t, .int .i64 s.d, .int .i64 s.k, .string s.r] := by rw [hY]; exact (boxL_new wr [.int .i64 s.i, .int .i64 s.t, .int .i64 s.d, .int .i64 s.k, .string s.r] _ rfl).below (Below.refl _ _).drew
   have hBY : Below w.heap.size w Y.drew := by rw [hY]; exact (hB.alloc hB.size _).drew
   have f0 := bS.1 0 _ rfl
   have f2 := bS.1 2 _ rfl
   clear ho
   obtain ⟨si, st, sd, sk, sr⟩ := s
   dsimp only at *
   by_cases h2 : si = 2
   ·
    subst h2
    by_cases hd : sd ≤ u
    ·
     have hd1 : decide (sd ≤ u) = true := decide_eq_true hd
     cases o with
     | none =>
      have hnx : Hid ((List.range (j + 1)).foldl (stepO ss u) none = some j) := by show _ = _; rw [hst.out]; exact stepO_first hs ⟨rfl, hd⟩
      clear hs hof hst HO X hB
      unfold atI
      go_wp2
      rw [← hY]
      clear hY z0 z1 z2 z3 z4
      refine region_turns (by kernel_rfl) [] (rA wr.heap.size sd now u true) (fun _ V => Hid (V = Y.drew)) (by kernel_rfl) (by kernel_rfl) rfl ?step 10 rfl ?after
      case step =>
       intro i o ho kk a2 wX hkk hmay hS hdf hsz hdep hsame
       match i, ho with
       | 0, ho =>
        cases ho
        have h7 := hsame 7 rfl
        exact val_op rfl (wanted_free rfl) (by clear hdep hsame hsz hdf; (try simp only [rA]); go_simp) rfl hS
       | 1, ho =>
        cases ho
        have h16 := hdep 0 _ 16 rfl rfl rfl
        simp only [rA] at h16
        match kk, hkk, hmay, hS with
        | 0, _, hq, hS => first | (cases hq; done) | ((have hE : wX = Y.drew := hS.out; subst hE); exact val_op rfl (wanted_free rfl) (by clear hdep hsame hsz hdf; (try simp only [rA]); go_simp) rfl hS)
        | kk + 1, hkk, _, _ => simp at hkk
       | 2, ho =>
        cases ho
        have h17 := hdep 1 _ 17 rfl rfl rfl
        simp only [rA] at h17
        exact val_op rfl (wanted_free rfl) (by clear hdep hsame hsz hdf; (try simp only [rA]); go_simp) rfl hS
       | 3, ho =>
        cases ho
        have h18 := hdep 2 _ 18 rfl rfl rfl
        simp only [rA] at h18
        exact val_op rfl (wanted_free rfl) (by clear hdep hsame hsz hdf; (try simp only [rA]); go_simp) rfl hS
       | 4, ho =>
        cases ho
        have h19 := hdep 3 _ 19 rfl rfl rfl
        have h7 := hsame 7 rfl
        simp only [rA] at h19
        exact val_op rfl (wanted_by 3 true 19 rfl rfl h19) (by clear hdep hsame hsz hdf; (try simp only [rA]); go_simp) rfl hS
       | 5, ho =>
        cases ho
        have h19 := hdep 3 _ 19 rfl rfl rfl
        have h20 := hdep 4 _ 20 rfl rfl rfl
        simp only [rA] at h19 h20
        match kk, hkk, hmay, hS with
        | 0, _, hq, hS => first | (cases hq; done) | ((have hE : wX = Y.drew := hS.out; subst hE); exact val_op rfl (wanted_by 3 true 19 rfl rfl h19) (by clear hdep hsame hsz hdf; (try simp only [rA]); go_simp) rfl hS)
        | kk + 1, hkk, _, _ => simp at hkk
       | 6, ho =>
        cases ho
        have h19 := hdep 3 _ 19 rfl rfl rfl
        have h1 := hsame 1 rfl
        simp only [rA] at h19
        exact val_op rfl (wanted_by 3 true 19 rfl rfl h19) (by clear hdep hsame hsz hdf; (try simp only [rA]); go_simp) rfl hS
       | 7, ho =>
        cases ho
        have h19 := hdep 3 _ 19 rfl rfl rfl
        have h22 := hdep 6 _ 22 rfl rfl rfl
        simp only [rA] at h19 h22
        match kk, hkk, hmay, hS with
        | 0, _, hq, hS => first | (cases hq; done) | ((have hE : wX = Y.drew := hS.out; subst hE); exact val_call rfl (wanted_by 3 true 19 rfl rfl h19) (by clear hdep hsame hsz hdf; (try simp only [rA]); go_simp) ((cT _).mono fun e w2 hh => ⟨hh.1, hh.2.symm⟩))
        | kk + 1, hkk, _, _ => simp at hkk
       | 8, ho =>
        cases ho
        have h19 := hdep 3 _ 19 rfl rfl rfl
        have h21 := hdep 5 _ 21 rfl rfl rfl
        have h23 := hdep 7 _ 23 rfl rfl rfl
        simp only [rA] at h19 h21 h23
        exact val_op rfl (wanted_by 3 true 19 rfl rfl h19) (by clear hdep hsame hsz hdf; (try simp only [rA]); go_simp) rfl hS
       | 9, ho =>
        cases ho
        have h19 := hdep 3 _ 19 rfl rfl rfl
        have h24 := hdep 8 _ 24 rfl rfl rfl
        simp only [rA] at h19 h24
        exact val_op rfl (wanted_free rfl) (by clear hdep hsame hsz hdf; (try simp only [rA]); go_simp) rfl hS
       | kk + 10, ho => simp at ho
      case after =>
       rintro V hV
       have hE : V = Y.drew := hV.out
       clear hV
       subst hE
       simp [filledN, rA]
       go_wp2
       go_region
       go_wp2
       go_roundw
       case rel => exact ⟨j + 1, by omega, by rw [hnx.out], by go_num, XY.drew, hBY.drew⟩
       case measure => simp [intOf]; omega
     | some f =>
      obtain ⟨sf, hsf⟩ := hof f rfl
      have hfl := (List.getElem?_eq_some_iff.1 hsf).1
      have hfn : (f : Int) < n := by have := HN.out; omega
      have hf0 : ¬ (f : Int) < 0 := by omega
      have hf1 : ((f : Int) < 0) = False := eq_false hf0
      have y2 := (XY.hZ.at hsf).2.2.1
      obtain ⟨fd, hfd⟩ : ∃ fd, fd = sf.d := ⟨_, rfl⟩
      rw [← hfd] at y2
      have q4 := XY.box.1 4 _ rfl
      by_cases hc : sd < fd
      ·
       have hc1 : (sd < fd) = True := eq_true hc
       have hnx : Hid ((List.range (j + 1)).foldl (stepO ss u) none = some j) := by show _ = _; rw [hst.out, stepO_more hs ⟨rfl, hd⟩ hsf, ← hfd, if_pos hc]
       clear hs hof hst HO X hB hfd hsf hfl hf0 hc
       unfold atI
       go_wp2
       rw [← hY]
       clear hY z0 z1 z2 z3 z4
       refine region_turns (by kernel_rfl) [] (rA wr.heap.size sd now u true) (fun _ V => Hid (V = Y.drew)) (by kernel_rfl) (by kernel_rfl) rfl ?step 10 rfl ?after
       case step =>
        intro i o ho kk a2 wX hkk hmay hS hdf hsz hdep hsame
        match i, ho with
        | 0, ho =>
         cases ho
         have h7 := hsame 7 rfl
         exact val_op rfl (wanted_free rfl) (by clear hdep hsame hsz hdf; (try simp only [rA]); go_simp) rfl hS
        | 1, ho =>
         cases ho
         have h16 := hdep 0 _ 16 rfl rfl rfl
         simp only [rA] at h16
         match kk, hkk, hmay, hS with
         | 0, _, hq, hS => first | (cases hq; done) | ((have hE : wX = Y.drew := hS.out; subst hE); exact val_op rfl (wanted_free rfl) (by clear hdep hsame hsz hdf; (try simp only [rA]); go_simp) rfl hS)
         | kk + 1, hkk, _, _ => simp at hkk
        | 2, ho =>
         cases ho
         have h17 := hdep 1 _ 17 rfl rfl rfl
         simp only [rA] at h17
         exact val_op rfl (wanted_free rfl) (by clear hdep hsame hsz hdf; (try simp only [rA]); go_simp) rfl hS
        | 3, ho =>
         cases ho
         have h18 := hdep 2 _ 18 rfl rfl rfl
         simp only [rA] at h18
         exact val_op rfl (wanted_free rfl) (by clear hdep hsame hsz hdf; (try simp only [rA]); go_simp) rfl hS
        | 4, ho =>
         cases ho
         have h19 := hdep 3 _ 19 rfl rfl rfl
         have h7 := hsame 7 rfl
         simp only [rA] at h19
         exact val_op rfl (wanted_by 3 true 19 rfl rfl h19) (by clear hdep hsame hsz hdf; (try simp only [rA]); go_simp) rfl hS
        | 5, ho =>
         cases ho
         have h19 := hdep 3 _ 19 rfl rfl rfl
         have h20 := hdep 4 _ 20 rfl rfl rfl
         simp only [rA] at h19 h20
         match kk, hkk, hmay, hS with
         | 0, _, hq, hS => first | (cases hq; done) | ((have hE : wX = Y.drew := hS.out; subst hE); exact val_op rfl (wanted_by 3 true 19 rfl rfl h19) (by clear hdep hsame hsz hdf; (try simp only [rA]); go_simp) rfl hS)
         | kk + 1, hkk, _, _ => simp at hkk
        | 6, ho =>
         cases ho
         have h19 := hdep 3 _ 19 rfl rfl rfl
         have h1 := hsame 1 rfl
         simp only [rA] at h19
         exact val_op rfl (wanted_by 3 true 19 rfl rfl h19) (by clear hdep hsame hsz hdf; (try simp only [rA]); go_simp) rfl hS
        | 7, ho =>
         cases ho
         have h19 := hdep 3 _ 19 rfl rfl rfl
         have h22 := hdep 6 _ 22 rfl rfl rfl
         simp only [rA] at h19 h22
         match kk, hkk, hmay, hS with
         | 0, _, hq, hS => first | (cases hq; done) | ((have hE : wX = Y.drew := hS.out; subst hE); exact val_call rfl (wanted_by 3 true 19 rfl rfl h19) (by clear hdep hsame hsz hdf; (try simp only [rA]); go_simp) ((cT _).mono fun e w2 hh => ⟨hh.1, hh.2.symm⟩))
         | kk + 1, hkk, _, _ => simp at hkk
        | 8, ho =>
         cases ho
         have h19 := hdep 3 _ 19 rfl rfl rfl
         have h21 := hdep 5 _ 21 rfl rfl rfl
         have h23 := hdep 7 _ 23 rfl rfl rfl
         simp only [rA] at h19 h21 h23
         exact val_op rfl (wanted_by 3 true 19 rfl rfl h19) (by clear hdep hsame hsz hdf; (try simp only [rA]); go_simp) rfl hS
        | 9, ho =>
         cases ho
         have h19 := hdep 3 _ 19 rfl rfl rfl
         have h24 := hdep 8 _ 24 rfl rfl rfl
         simp only [rA] at h19 h24
         exact val_op rfl (wanted_free rfl) (by clear hdep hsame hsz hdf; (try simp only [rA]); go_simp) rfl hS
        | kk + 10, ho => simp at ho
       case after =>
        rintro V hV
        have hE : V = Y.drew := hV.out
        clear hV
        subst hE
        simp [filledN, rA]
        go_wp2
        go_region
        go_wp2
        go_roundw
        case rel => exact ⟨j + 1, by omega, by rw [hnx.out], by go_num, XY.drew, hBY.drew⟩
        case measure => simp [intOf]; omega
      ·
       have hc1 : (sd < fd) = False := eq_false hc
       have hnx : Hid ((List.range (j + 1)).foldl (stepO ss u) none = some f) := by show _ = _; rw [hst.out, stepO_more hs ⟨rfl, hd⟩ hsf, ← hfd, if_neg hc]
       clear hs hof hst HO X hB hfd hsf hfl hf0 hc
       unfold atI
       go_wp2
       rw [← hY]
       clear hY z0 z1 z2 z3 z4
       refine region_turns (by kernel_rfl) [] (rA wr.heap.size sd now u true) (fun _ V => Hid (V = Y.drew)) (by kernel_rfl) (by kernel_rfl) rfl ?step 10 rfl ?after
       case step =>
        intro i o ho kk a2 wX hkk hmay hS hdf hsz hdep hsame
        match i, ho with
        | 0, ho =>
         cases ho
         have h7 := hsame 7 rfl
         exact val_op rfl (wanted_free rfl) (by clear hdep hsame hsz hdf; (try simp only [rA]); go_simp) rfl hS
        | 1, ho =>
         cases ho
         have h16 := hdep 0 _ 16 rfl rfl rfl
         simp only [rA] at h16
         match kk, hkk, hmay, hS with
         | 0, _, hq, hS => first | (cases hq; done) | ((have hE : wX = Y.drew := hS.out; subst hE); exact val_op rfl (wanted_free rfl) (by clear hdep hsame hsz hdf; (try simp only [rA]); go_simp) rfl hS)
         | kk + 1, hkk, _, _ => simp at hkk
        | 2, ho =>
         cases ho
         have h17 := hdep 1 _ 17 rfl rfl rfl
         simp only [rA] at h17
         exact val_op rfl (wanted_free rfl) (by clear hdep hsame hsz hdf; (try simp only [rA]); go_simp) rfl hS
        | 3, ho =>
         cases ho
         have h18 := hdep 2 _ 18 rfl rfl rfl
         simp only [rA] at h18
         exact val_op rfl (wanted_free rfl) (by clear hdep hsame hsz hdf; (try simp only [rA]); go_simp) rfl hS
        | 4, ho =>
         cases ho
         have h19 := hdep 3 _ 19 rfl rfl rfl
         have h7 := hsame 7 rfl
         simp only [rA] at h19
         exact val_op rfl (wanted_by 3 true 19 rfl rfl h19) (by clear hdep hsame hsz hdf; (try simp only [rA]); go_simp) rfl hS
        | 5, ho =>
         cases ho
         have h19 := hdep 3 _ 19 rfl rfl rfl
         have h20 := hdep 4 _ 20 rfl rfl rfl
         simp only [rA] at h19 h20
         match kk, hkk, hmay, hS with
         | 0, _, hq, hS => first | (cases hq; done) | ((have hE : wX = Y.drew := hS.out; subst hE); exact val_op rfl (wanted_by 3 true 19 rfl rfl h19) (by clear hdep hsame hsz hdf; (try simp only [rA]); go_simp) rfl hS)
         | kk + 1, hkk, _, _ => simp at hkk
        | 6, ho =>
         cases ho
         have h19 := hdep 3 _ 19 rfl rfl rfl
         have h1 := hsame 1 rfl
         simp only [rA] at h19
         exact val_op rfl (wanted_by 3 true 19 rfl rfl h19) (by clear hdep hsame hsz hdf; (try simp only [rA]); go_simp) rfl hS
        | 7, ho =>
         cases ho
         have h19 := hdep 3 _ 19 rfl rfl rfl
         have h22 := hdep 6 _ 22 rfl rfl rfl
         simp only [rA] at h19 h22
         match kk, hkk, hmay, hS with
         | 0, _, hq, hS => first | (cases hq; done) | ((have hE : wX = Y.drew := hS.out; subst hE); exact val_call rfl (wanted_by 3 true 19 rfl rfl h19) (by clear hdep hsame hsz hdf; (try simp only [rA]); go_simp) ((cT _).mono fun e w2 hh => ⟨hh.1, hh.2.symm⟩))
         | kk + 1, hkk, _, _ => simp at hkk
        | 8, ho =>
         cases ho
         have h19 := hdep 3 _ 19 rfl rfl rfl
         have h21 := hdep 5 _ 21 rfl rfl rfl
         have h23 := hdep 7 _ 23 rfl rfl rfl
         simp only [rA] at h19 h21 h23
         exact val_op rfl (wanted_by 3 true 19 rfl rfl h19) (by clear hdep hsame hsz hdf; (try simp only [rA]); go_simp) rfl hS
        | 9, ho =>
         cases ho
         have h19 := hdep 3 _ 19 rfl rfl rfl
         have h24 := hdep 8 _ 24 rfl rfl rfl
         simp only [rA] at h19 h24
         exact val_op rfl (wanted_free rfl) (by clear hdep hsame hsz hdf; (try simp only [rA]); go_simp) rfl hS
        | kk + 10, ho => simp at ho
       case after =>
        rintro V hV
        have hE : V = Y.drew := hV.out
        clear hV
        subst hE
        simp [filledN, rA]
        go_wp2
        go_region
        go_wp2
        go_roundw
        case rel => exact ⟨j + 1, by omega, by rw [hnx.out], by go_num, XY.drew, hBY.drew⟩
        case measure => simp [intOf]; omega
    ·
     have hd1 : decide (sd ≤ u) = false := decide_eq_false hd
     have hnx : Hid ((List.range (j + 1)).foldl (stepO ss u) none = o) := by show _ = _; rw [hst.out]; exact stepO_no hs fun h => hd h.2
     clear hs hof hst X hB
     have HA : Hid (atI o = atI o) := rfl
     obtain ⟨oi, hoi⟩ : ∃ oi, oi = atI o := ⟨_, rfl⟩
     rw [← hoi]
     have HOI : Hid (oi = atI o) := hoi
     clear hoi
     go_wp2
     rw [← hY]
     clear hY z0 z1 z2 z3 z4
     refine region_turns (by kernel_rfl) [] (rA wr.heap.size sd now u false) (fun _ V => Hid (V = Y.drew)) (by kernel_rfl) (by kernel_rfl) rfl ?step 10 rfl ?after
     case step =>
      intro i o ho kk a2 wX hkk hmay hS hdf hsz hdep hsame
      match i, ho with
      | 0, ho =>
       cases ho
       have h7 := hsame 7 rfl
       exact val_op rfl (wanted_free rfl) (by clear hdep hsame hsz hdf; (try simp only [rA]); go_simp) rfl hS
      | 1, ho =>
       cases ho
       have h16 := hdep 0 _ 16 rfl rfl rfl
       simp only [rA] at h16
       match kk, hkk, hmay, hS with
       | 0, _, hq, hS => first | (cases hq; done) | ((have hE : wX = Y.drew := hS.out; subst hE); exact val_op rfl (wanted_free rfl) (by clear hdep hsame hsz hdf; (try simp only [rA]); go_simp) rfl hS)
       | kk + 1, hkk, _, _ => simp at hkk
      | 2, ho =>
       cases ho
       have h17 := hdep 1 _ 17 rfl rfl rfl
       simp only [rA] at h17
       exact val_op rfl (wanted_free rfl) (by clear hdep hsame hsz hdf; (try simp only [rA]); go_simp) rfl hS
      | 3, ho =>
       cases ho
       have h18 := hdep 2 _ 18 rfl rfl rfl
       simp only [rA] at h18
       exact val_op rfl (wanted_free rfl) (by clear hdep hsame hsz hdf; (try simp only [rA]); go_simp) rfl hS
      | 4, ho =>
       cases ho
       have h19 := hdep 3 _ 19 rfl rfl rfl
       have h7 := hsame 7 rfl
       simp only [rA] at h19
       exact val_op rfl (wanted_by 3 true 19 rfl rfl h19) (by clear hdep hsame hsz hdf; (try simp only [rA]); go_simp) rfl hS
      | 5, ho =>
       cases ho
       have h19 := hdep 3 _ 19 rfl rfl rfl
       have h20 := hdep 4 _ 20 rfl rfl rfl
       simp only [rA] at h19 h20
       match kk, hkk, hmay, hS with
       | 0, _, hq, hS => first | (cases hq; done) | ((have hE : wX = Y.drew := hS.out; subst hE); exact val_op rfl (wanted_by 3 true 19 rfl rfl h19) (by clear hdep hsame hsz hdf; (try simp only [rA]); go_simp) rfl hS)
       | kk + 1, hkk, _, _ => simp at hkk
      | 6, ho =>
       cases ho
       have h19 := hdep 3 _ 19 rfl rfl rfl
       have h1 := hsame 1 rfl
       simp only [rA] at h19
       exact val_op rfl (wanted_by 3 true 19 rfl rfl h19) (by clear hdep hsame hsz hdf; (try simp only [rA]); go_simp) rfl hS
      | 7, ho =>
       cases ho
       have h19 := hdep 3 _ 19 rfl rfl rfl
       have h22 := hdep 6 _ 22 rfl rfl rfl
       simp only [rA] at h19 h22
       match kk, hkk, hmay, hS with
       | 0, _, hq, hS => first | (cases hq; done) | ((have hE : wX = Y.drew := hS.out; subst hE); exact val_call rfl (wanted_by 3 true 19 rfl rfl h19) (by clear hdep hsame hsz hdf; (try simp only [rA]); go_simp) ((cT _).mono fun e w2 hh => ⟨hh.1, hh.2.symm⟩))
       | kk + 1, hkk, _, _ => simp at hkk
      | 8, ho =>
       cases ho
       have h19 := hdep 3 _ 19 rfl rfl rfl
       have h21 := hdep 5 _ 21 rfl rfl rfl
       have h23 := hdep 7 _ 23 rfl rfl rfl
       simp only [rA] at h19 h21 h23
       exact val_op rfl (wanted_by 3 true 19 rfl rfl h19) (by clear hdep hsame hsz hdf; (try simp only [rA]); go_simp) rfl hS
      | 9, ho =>
       cases ho
       have h19 := hdep 3 _ 19 rfl rfl rfl
       have h24 := hdep 8 _ 24 rfl rfl rfl
       simp only [rA] at h19 h24
       exact val_op rfl (wanted_free rfl) (by clear hdep hsame hsz hdf; (try simp only [rA]); go_simp) rfl hS
      | kk + 10, ho => simp at ho
     case after =>
      rintro V hV
      have hE : V = Y.drew := hV.out
      clear hV
      subst hE
      simp [filledN, rA]
      go_wp2
      go_roundw
      case rel => exact ⟨j + 1, by omega, by rw [hnx.out]; exact congrArg _ HOI.out, by go_num, XY, hBY⟩
      case measure => simp [intOf]; omega
   ·
    have i2 : (si == 2) = false := by simpa using h2
    have hnx : Hid ((List.range (j + 1)).foldl (stepO ss u) none = o) := by show _ = _; rw [hst.out]; exact stepO_no hs fun h => h2 h.1
    clear hs hof hst X hB
    obtain ⟨oi, hoi⟩ : ∃ oi, oi = atI o := ⟨_, rfl⟩
    rw [← hoi]
    have HOI : Hid (oi = atI o) := hoi
    clear hoi
    go_wp2
    rw [← hY]
    clear hY z0 z1 z2 z3 z4
    refine region_turns (by kernel_rfl) [] (rB wr.heap.size si) (fun _ V => Hid (V = Y.drew)) (by kernel_rfl) (by kernel_rfl) rfl ?step 10 rfl ?after
    case step =>
     intro i o ho kk a2 wX hkk hmay hS hdf hsz hdep hsame
     match i, ho with
     | 0, ho =>
      cases ho
      have h7 := hsame 7 rfl
      exact val_op rfl (wanted_free rfl) (by clear hdep hsame hsz hdf; (try simp only [rB]); go_simp) rfl hS
     | 1, ho =>
      cases ho
      have h16 := hdep 0 _ 16 rfl rfl rfl
      simp only [rB] at h16
      match kk, hkk, hmay, hS with
      | 0, _, hq, hS => first | (cases hq; done) | ((have hE : wX = Y.drew := hS.out; subst hE); exact val_op rfl (wanted_free rfl) (by clear hdep hsame hsz hdf; (try simp only [rB]); go_simp) rfl hS)
      | kk + 1, hkk, _, _ => simp at hkk
     | 2, ho =>
      cases ho
      have h17 := hdep 1 _ 17 rfl rfl rfl
      simp only [rB] at h17
      exact val_op rfl (wanted_free rfl) (by clear hdep hsame hsz hdf; (try simp only [rB]); go_simp) rfl hS
     | 3, ho =>
      cases ho
      have h18 := hdep 2 _ 18 rfl rfl rfl
      simp only [rB] at h18
      exact val_op rfl (wanted_free rfl) (by clear hdep hsame hsz hdf; (try simp only [rB]); go_simp) rfl hS
     | 4, ho =>
      cases ho
      have h19 := hdep 3 _ 19 rfl rfl rfl
      simp only [rB] at h19
      exact val_left rfl (unwanted_by 3 true 19 rfl rfl h19) rfl hS
     | 5, ho =>
      cases ho
      have h19 := hdep 3 _ 19 rfl rfl rfl
      simp only [rB] at h19
      exact val_left rfl (unwanted_by 3 true 19 rfl rfl h19) rfl hS
     | 6, ho =>
      cases ho
      have h19 := hdep 3 _ 19 rfl rfl rfl
      simp only [rB] at h19
      exact val_left rfl (unwanted_by 3 true 19 rfl rfl h19) rfl hS
     | 7, ho =>
      cases ho
      have h19 := hdep 3 _ 19 rfl rfl rfl
      simp only [rB] at h19
      exact val_left rfl (unwanted_by 3 true 19 rfl rfl h19) rfl hS
     | 8, ho =>
      cases ho
      have h19 := hdep 3 _ 19 rfl rfl rfl
      simp only [rB] at h19
      exact val_left rfl (unwanted_by 3 true 19 rfl rfl h19) rfl hS
     | 9, ho =>
      cases ho
      have h19 := hdep 3 _ 19 rfl rfl rfl
      have h24 := hdep 8 _ 24 rfl rfl rfl
      simp only [rB] at h19 h24
      exact val_op rfl (wanted_free rfl) (by clear hdep hsame hsz hdf; (try simp only [rB]); go_simp) rfl hS
     | kk + 10, ho => simp at ho
    case after =>
     rintro V hV
     have hE : V = Y.drew := hV.out
     clear hV
     subst hE
     simp [filledN, rB]
     go_wp2
     go_roundw
     case rel => exact ⟨j + 1, by omega, by rw [hnx.out]; exact congrArg _ HOI.out, by go_num, XY, hBY⟩
     case measure => simp [intOf]; omega
  ·
   obtain rfl : n = j := by omega
   have hx : ¬ (n : Int) < n := by omega
   have hE : Hid (atI o = FR) := by show _ = _; rw [HFR.out, HO.out, HN.out]; rfl
   clear ho HO
   obtain ⟨oi, hoi⟩ : ∃ oi, oi = atI o := ⟨_, rfl⟩
   rw [← hoi]
   have HOI : Hid (oi = atI o) := hoi
   clear hoi
   go_wp2
   go_ret
   exact ⟨by rw [HOI.out, hE.out]; rfl, hB⟩
end Go.Proofs.Ytpjaeaepifpmjaa
namespace Go.Proofs.Ytpjaeaepifpmjaa
open Go.RowKit Plain
set_option linter.unusedVariables false
theorem box_second (w : World) (i t d k : Int) (r : ByteArray) (ta : Option Addr) (tl tc : Nat) (tr wt le : Int) : BoxL (((w.alloc (.cells #[.slice ta tl tc, .int .i64 tr, .int .i64 wt, .int .i64 le] 50)).alloc (.cells #[.int .i64 i, .int .i64 t, .int .i64 d, .int .i64 k, .string r] 52)).alloc (.cells #[.int .i64 0, .int .i64 0, .int .i64 0, .int .i64 0, .string ⟨#[]⟩] 52)) (w.heap.size + 1) [.int .i64 i, .int .i64 t, .int .i64 d, .int .i64 k, .string r] :=
 (boxL_new (w.alloc (.cells #[.slice ta tl tc, .int .i64 tr, .int .i64 wt, .int .i64 le] 50)) [.int .i64 i, .int .i64 t, .int .i64 d, .int .i64 k, .string r] 52 (by simp)).alloc _
set_option maxRecDepth 20000 in
set_option maxHeartbeats 2000000 in
theorem refExpireT_any (ta : Option Addr) (tl tc : Nat) (tr wt le : Int) (i t d k : Int) (r : ByteArray) (now : Int) (w : World) (hnow : now ≤ 9223372036854775807) (ht : t ≤ 9223372036854775807) (hd : d ≤ 9223372036854775807) :
  Calls Try.prog 48 #[.agg #[.slice ta tl tc, .int .i64 tr, .int .i64 wt, .int .i64 le], .agg #[.int .i64 i, .int .i64 t, .int .i64 d, .int .i64 k, .string r], .int .i64 now] w fun e w' => e = .returned (vT (expireT tr wt ⟨i, t, d, k, r⟩ now)) ∧ Below w.heap.size w w' := by
 have c2 := fun W => refTime_any now W hnow
 have q0 := (box_second w i t d k r ta tl tc tr wt le).1 0 _ rfl
 have q2 := (box_second w i t d k r ta tl tc tr wt le).1 2 _ rfl
 by_cases h : i = 2
 ·
  subst h
  by_cases ho : d ≤ untF now []
  ·
   rw [show expireT tr wt ⟨2, t, d, k, r⟩ now = failT tr wt ⟨2, t, d, k, r⟩ d from if_pos ⟨rfl, ho⟩]
   generalize untF now [] = n0 at *
   have ho' : (d ≤ n0) = True := eq_true ho
   clear ho
   by_cases hl : t < tr
   ·
    rw [show failT tr wt ⟨2, t, d, k, r⟩ d = ⟨1, t, untF d [afterF wt t], 0, r⟩ by unfold failT; rw [if_pos rfl, if_pos hl]]
    have c3 := fun W => refFailLow_any ta tl tc tr wt le t d k r d W ht hd hl
    generalize untF d [afterF wt t] = u at *
    generalize afterF wt t = v at *
    go_enter Try.func48, Try.ntmps48
    go_wp2
    go_region_held3 (fun V => V.cell? ⟨w.heap.size + 1, 0, none⟩ = some (.int .i64 2) ∧ V.cell? ⟨w.heap.size + 1, 2, none⟩ = some (.int .i64 d)) (exact ⟨q0, q2⟩) (first
     | (go_at_call 53; refine (c2 _).mono ?_; rintro e w' ⟨rfl, rfl⟩))
    go_wp2_with (first
     | (go_at_call 66; refine (c3 _).mono ?_; rintro e w' ⟨rfl, rfl⟩))
    exact bodyPost_ret (v := .agg #[.int .i64 1, .int .i64 t, .int .i64 u, .int .i64 0, .string r]) (by simp [results, Try.results48, go_sem]) rfl ⟨rfl, (((((bel4 _ _ _ _ _).alloc (by simp; omega) _).alloc (by simp; omega) _).alloc (by simp; omega) _).alloc (by simp; omega) _).drew⟩
   ·
    rw [show failT tr wt ⟨2, t, d, k, r⟩ d = ⟨4, t, 0, 0, r⟩ by unfold failT; rw [if_pos rfl, if_neg hl]]
    have c3 := fun W => refFailHigh_any ta tl tc tr wt le t d k r d W hl
    go_enter Try.func48, Try.ntmps48
    go_wp2
    go_region_held3 (fun V => V.cell? ⟨w.heap.size + 1, 0, none⟩ = some (.int .i64 2) ∧ V.cell? ⟨w.heap.size + 1, 2, none⟩ = some (.int .i64 d)) (exact ⟨q0, q2⟩) (first
     | (go_at_call 53; refine (c2 _).mono ?_; rintro e w' ⟨rfl, rfl⟩))
    go_wp2_with (first
     | (go_at_call 66; refine (c3 _).mono ?_; rintro e w' ⟨rfl, rfl⟩))
    exact bodyPost_ret (v := .agg #[.int .i64 4, .int .i64 t, .int .i64 0, .int .i64 0, .string r]) (by simp [results, Try.results48, go_sem]) rfl ⟨rfl, ((((bel4 _ _ _ _ _).alloc (by simp; omega) _).alloc (by simp; omega) _).alloc (by simp; omega) _).drew⟩
  ·
   rw [show expireT tr wt ⟨2, t, d, k, r⟩ now = ⟨2, t, d, k, r⟩ from if_neg (fun hh => ho hh.2)]
   generalize untF now [] = n0 at *
   have ho' : (d ≤ n0) = False := eq_false ho
   clear ho
   go_enter Try.func48, Try.ntmps48
   go_wp2
   go_region_held3 (fun V => V.cell? ⟨w.heap.size + 1, 0, none⟩ = some (.int .i64 2) ∧ V.cell? ⟨w.heap.size + 1, 2, none⟩ = some (.int .i64 d)) (exact ⟨q0, q2⟩) (first
    | (go_at_call 53; refine (c2 _).mono ?_; rintro e w' ⟨rfl, rfl⟩))
   go_wp2
   exact bodyPost_ret (v := .agg #[.int .i64 2, .int .i64 t, .int .i64 d, .int .i64 k, .string r]) (by simp [results, Try.results48, go_sem]) rfl ⟨rfl, (bel3 _ _ _ _).drew⟩
 ·
  rw [show expireT tr wt ⟨i, t, d, k, r⟩ now = ⟨i, t, d, k, r⟩ from if_neg (fun hh => h hh.1)]
  have h' : (i == 2) = false := by simpa using h
  go_enter Try.func48, Try.ntmps48
  go_wp2
  go_region
  go_wp2
  exact bodyPost_ret (v := .agg #[.int .i64 i, .int .i64 t, .int .i64 d, .int .i64 k, .string r]) (by simp [results, Try.results48, go_sem]) rfl ⟨rfl, (bel3 _ _ _ _).drew⟩
end Go.Proofs.Ytpjaeaepifpmjaa
namespace Go.Proofs.Ytpjaeaepifpmjaa
open Go.RowKit Plain Anylast
set_option linter.unusedVariables false
def seV (ky nm : ByteArray) (tb to tn tc : Nat) (is : Int) (b o n c : Nat) (z i : Nat) (tk : Value) (s x : StP) (now : Int) (B : Nat) (zs ms : List StP) (mi : Int) : Nat → Value → World → Prop
 | 0, v, _ => v = .agg #[.string ky, .string nm, .slice (some ⟨tb, to, none⟩) tn tc, .int .i64 is, .slice (some ⟨b, o, none⟩) n c]
 | 1, v, _ => v = .int .i64 i | 2, v, _ => v = .pointer (some ⟨z, 1, none⟩) | 3, v, _ => v = .pointer (some ⟨z, 2, none⟩) | 4, v, _ => v = .slice (some ⟨tb, to, none⟩) tn tc | 5, v, _ => v = .int .i64 i
 | 6, v, _ => v = .pointer (some ⟨tb, to + i * 4, none⟩) | 7, v, _ => v = tk | 8, v, _ => v = .pointer (some ⟨z, 4, none⟩) | 9, v, _ => v = .slice (some ⟨b, o, none⟩) n c | 10, v, _ => v = .int .i64 i
 | 11, v, _ => v = .pointer (some ⟨b, o + i * 5, none⟩) | 12, v, _ => v = vT s | 13, v, _ => v = .int .i64 now | 14, v, _ => v = vT x
 | 15, v, w => ∃ a c, v = .agg #[.string ky, .string nm, .slice (some ⟨tb, to, none⟩) tn tc, .int .i64 is, .slice a n c] ∧ IsZ w a c zs ∧ From B a
 | 16, v, w => ∃ a c, v = .agg #[.string ky, .string nm, .slice (some ⟨tb, to, none⟩) tn tc, .int .i64 mi, .slice a n c] ∧ IsZ w a c ms ∧ From B a
 | _, _, _ => True
theorem seV_mono {ky nm : ByteArray} {tb to tn tc : Nat} {is : Int} {b o n c : Nat} {z i : Nat} {tk : Value} {s x : StP} {now : Int} {B : Nat} {zs ms : List StP} {mi : Int} (hz : z < B) (k : Nat) (v : Value) (X Y : World) (t : Turns (fun k => k = z) X Y) (hv : seV ky nm tb to tn tc is b o n c z i tk s x now B zs ms mi k v X) : seV ky nm tb to tn tc is b o n c z i tk s x now B zs ms mi k v Y := by
 unfold seV at hv ⊢
 split at hv
 all_goals first
  | exact hv
  | (obtain ⟨a, c, e, h, f⟩ := hv; exact ⟨a, c, e, h.turns t fun y hy hk => (by have := f y hy; have hk' : y.block = z := hk; omega), f⟩)
  | trivial
set_option maxRecDepth 20000 in
set_option maxHeartbeats 4000000 in
theorem refSettle_any (ky nm : ByteArray) (ta : Option Addr) (tn tc : Nat) (is : Int) (sa : Option Addr) (n sc : Nat) (tv : List TaskV) (ss : List StP) (now : Int) (w : World) (hT : IsT w ta tc tv) (htn : tn = tv.length) (hZ : IsZ w sa sc ss) (hn : n = ss.length) (hnow : now ≤ 9223372036854775807) (hOk : RunOk ky nm (plainT tv) ss is) :
  Calls Try.prog 18 #[.agg #[.string ky, .string nm, .slice ta tn tc, .int .i64 is, .slice sa n sc], .int .i64 now] w fun e w' => ∃ a c, e = .returned (.agg #[.string ky, .string nm, .slice ta tn tc, .int .i64 (settleS (plainT tv) (untF now []) (ss, is)).2, .slice a n c]) ∧ IsZ w' a c (settleS (plainT tv) (untF now []) (ss, is)).1 ∧ n = (settleS (plainT tv) (untF now []) (ss, is)).1.length ∧ Below w.heap.size w w' := by
 have hnt : n = tn := by rw [hn, hOk.st.len, plainT_length, htn]
 subst hnt
 obtain ⟨h10, h0, hin⟩ := inside_of htn hOk.dag
 obtain ⟨tb, to, rfl, -⟩ := hT.some (by omega)
 obtain ⟨SR, hSR⟩ : ∃ SR, SR = settleS (plainT tv) (untF now []) (ss, is) := ⟨_, rfl⟩
 rw [← hSR]
 have HSR : Hid (SR = settleS (plainT tv) (untF now []) (ss, is)) := hSR
 obtain ⟨W0, hW0⟩ : ∃ W0, W0 = (w.alloc (.cells #[.string ky, .string nm, .slice (some ⟨tb, to, none⟩) n tc, .int .i64 is, .slice sa n sc] 27)).alloc (.cells #[.string ⟨#[]⟩, .string ⟨#[]⟩, .slice none 0 0, .int .i64 0, .slice none 0 0] 27) := ⟨_, rfl⟩
 have hB0 : Below w.heap.size w W0 := by rw [hW0]; exact bel2 w _ _
 have BX : BoxL W0 w.heap.size [.string ky, .string nm, .slice (some ⟨tb, to, none⟩) n tc, .int .i64 is, .slice sa n sc] := by rw [hW0]; exact (boxL_new w [.string ky, .string nm, .slice (some ⟨tb, to, none⟩) n tc, .int .i64 is, .slice sa n sc] _ rfl).alloc _
 have BY : BoxL W0 (w.heap.size + 1) [.string ⟨#[]⟩, .string ⟨#[]⟩, .slice none 0 0, .int .i64 0, .slice none 0 0] := by rw [hW0]; exact boxL_new _ [.string ⟨#[]⟩, .string ⟨#[]⟩, .slice none 0 0, .int .i64 0, .slice none 0 0] _ (by simp)
 have HOK : Hid (RunOk ky nm (plainT tv) ss is) := hOk
 have HN : Hid (n = ss.length) := hn
 have HTN : Hid (n = tv.length) := htn
 have HT : Hid (IsT w (some ⟨tb, to, none⟩) tc tv) := hT
 have HIN : Hid (∀ (i : Nat) t, tv[i]? = some t → ∀ x ∈ t.ns, 0 ≤ x ∧ x < n) := hin
 have hZ0 := hZ.below hB0
 have HSA : Hid (∀ y, sa = some y → y.block < w.heap.size) := fun y hy => hZ.lies (by omega) y hy
 have x4 := BX.1 4 _ rfl
 rw [hW0] at x4
 clear hT htn hZ hn hOk hSR hin
 go_enter Try.func18, Try.ntmps18
 go_wp2
 rw [← hW0]
 clear hW0 x4
 go_loopw [9] (fun v wr => ∃ (m : Nat) (a : Option Addr) (c : Nat) (zs : List StP) (js : Int), m ≤ n ∧ v = .int .i64 m ∧ BoxL wr w.heap.size [.string ky, .string nm, .slice (some ⟨tb, to, none⟩) n tc, .int .i64 js, .slice a n c] ∧ BoxL wr (w.heap.size + 1) [.string ⟨#[]⟩, .string ⟨#[]⟩, .slice none 0 0, .int .i64 0, .slice none 0 0] ∧ IsZ wr a c zs ∧ Hid (n = zs.length ∧ RightS (plainT tv) zs js ∧ againS (stepS (plainT tv) (untF now [])) (n - m) (zs, js) = SR) ∧ Hid (∀ y, a = some y → y.block ≠ w.heap.size ∧ y.block ≠ w.heap.size + 1) ∧ Below w.heap.size w wr) (fun v _ => n - (intOf v).toNat)
 case atStart => exact ⟨0, sa, sc, ss, is, Nat.zero_le _, rfl, BX, BY, hZ0, ⟨HN.out, HOK.out.st, by rw [HSR.out, Nat.sub_zero, HN.out]; rfl⟩, (fun y hy => by have := HSA.out y hy; omega), hB0⟩
 case round =>
  clear BX BY hZ0 hB0
  obtain ⟨m, a, c, zs, js, hm, rfl, BX, BY, hZ, HK, HA, hB⟩ := hrel
  by_cases hlt : m < n
  ·
   have hlt' : (m : Int) < n := by omega
   have cO := refOver_any ky nm (some ⟨tb, to, none⟩) n tc js a n c tv zs now wr (HT.out.below hB) HTN.out hZ HK.out.1 hnow
   have hag : Hid (againS (stepS (plainT tv) (untF now [])) (n - (m + 1)) (stepS (plainT tv) (untF now []) (zs, js)) = SR) := by
    have := HK.out.2.2
    rw [show n - m = (n - (m + 1)) + 1 by omega] at this
    exact this
   have x0 := BX.1 0 _ rfl; have x1 := BX.1 1 _ rfl; have x2 := BX.1 2 _ rfl; have x3 := BX.1 3 _ rfl; have x4 := BX.1 4 _ rfl
   cases ho : overN zs (untF now []) with
   | none =>
    rw [ho] at cO
    have hst : Hid (stepS (plainT tv) (untF now []) (zs, js) = (zs, js)) := step_fix (x := (zs, js)) ho
    unfold atI at cO
    clear ho
    go_wp2_with (go_at_call 46; refine cO.mono ?_; rintro e w2 ⟨rfl, hb⟩)
    go_roundw
    case rel => exact ⟨m + 1, a, c, zs, js, by omega, by go_num, BX.below hb, BY.below hb, hZ.below hb, ⟨HK.out.1, HK.out.2.1, by rw [← hst.out]; exact hag.out⟩, HA.out, Below.tr hB hb⟩
    case measure => simp [intOf]; omega
   | some ix =>
    rw [ho] at cO
    unfold atI at cO
    obtain ⟨s, hs, h2, hd, -⟩ := overN_some ho
    have hil : ix < zs.length := (List.getElem?_eq_some_iff.1 hs).1
    obtain ⟨t, ht⟩ : ∃ t, tv[ix]? = some t := ⟨_, List.getElem?_eq_getElem (by rw [← HTN.out, HK.out.1]; exact hil)⟩
    have htp := plainT_get ht
    have hrt := (HK.out.2.1.each ix s t.p hs htp).right
    have hst0 := (standT_iff s).1 (right_parts hrt).1
    have hin0 : ix < n := by rw [HK.out.1]; exact hil
    have hin' : (ix : Int) < n := by omega
    have hge : (0 : Int) ≤ ix := by omega
    obtain ⟨b, o, rfl, -⟩ := hZ.some (by have := HK.out.1; omega)
    obtain ⟨xs, hxs⟩ : ∃ xs, xs = failT t.tr t.wt s s.d := ⟨_, rfl⟩
    have hex : expireT t.tr t.wt s now = xs := by rw [hxs]; unfold expireT; rw [if_pos ⟨h2, hd⟩]
    have hXf : xs = failI (plainT tv) zs ix := by unfold failI; rw [hs, htp, hxs]; rfl
    have hXt : xs.r.size ≤ maxLen := by rw [hxs]; exact fail_text (hZ.text hs)
    have cE : ∀ W, Calls Try.prog 48 #[.agg #[.slice t.a t.ns.length t.c, .int .i64 t.tr, .int .i64 t.wt, .int .i64 t.le], .agg #[.int .i64 s.i, .int .i64 s.t, .int .i64 s.d, .int .i64 s.k, .string s.r], .int .i64 now] W fun e w' => e = .returned (vT xs) ∧ Below W.heap.size W w' := by
     intro W
     have := refExpireT_any t.a t.ns.length t.c t.tr t.wt t.le s.i s.t s.d s.k s.r now W hnow (by omega) (by omega)
     rw [show (⟨s.i, s.t, s.d, s.k, s.r⟩ : StP) = s from rfl, hex] at this
     exact this
    obtain ⟨ms, hms⟩ : ∃ ms, ms = (mendS (plainT tv) (zs.set ix xs) js).1 := ⟨_, rfl⟩
    obtain ⟨mi, hmi⟩ : ∃ mi, mi = (mendS (plainT tv) (zs.set ix xs) js).2 := ⟨_, rfl⟩
    have HX : Hid ((ms, mi) = stepS (plainT tv) (untF now []) (zs, js)) := by
     show _ = _
     unfold stepS
     simp only [ho]
     rw [← hXf, hms, hmi]
    have hml : ms.length = n := by rw [hms, mend_len, List.length_set]; exact HK.out.1.symm
    have HM : Hid (n = ms.length ∧ RightS (plainT tv) ms mi ∧ againS (stepS (plainT tv) (untF now [])) (n - (m + 1)) (ms, mi) = SR) := by
     refine ⟨hml.symm, ?_, by rw [HX.out]; exact hag.out⟩
     have := step_right (fun i t hi => by
      have h1 := HOK.out.dag
      unfold plainT at hi
      rw [List.getElem?_map] at hi
      obtain ⟨t', ht', rfl⟩ := Option.map_eq_some_iff.1 hi
      exact (tasks_of h1 (List.mem_of_getElem? ht')).2.1) (u := untF now []) (x := (zs, js)) HK.out.2.1
     rw [← HX.out] at this
     exact this
    obtain ⟨zn, hzn⟩ : ∃ zn, zn = zs.set ix xs := ⟨_, rfl⟩
    have HZn : Hid (zn = setI zs ix ⟨xs.i, xs.t, xs.d, xs.k, xs.r⟩) := by show _ = _; rw [hzn, setI_nat]
    have cM0 : ∀ W a1 c1, Below w.heap.size w W → IsZ W a1 c1 zn → Calls Try.prog 36 #[.agg #[.string ky, .string nm, .slice (some ⟨tb, to, none⟩) n tc, .int .i64 js, .slice a1 n c1]] W fun e w' => ∃ v, e = .returned v ∧ MadeC W ky nm (some ⟨tb, to, none⟩) n tc mi a1 n ms v w' := by
     intro W a1 c1 hW hz
     have := refMend_any ky nm (some ⟨tb, to, none⟩) n tc js a1 n c1 tv zn W (HT.out.below hW) HTN.out hz (by rw [hzn, List.length_set]; exact HK.out.1) rfl h10 HIN.out
     rw [hzn, ← hms, ← hmi] at this
     exact this
    have HNS : Hid (n = zs.length) := HK.out.1
    have HS : Hid (zs[ix]? = some s) := hs
    have HTS : Hid (tv[ix]? = some t) := ht
    have hb1 : n ≤ tc ∧ tc ≤ 9223372036854775807 := by have h1 := HT.out.1; have h2 := HT.out.2.1; rw [← HTN.out] at h1; exact ⟨h1, h2⟩
    have hb2 : n ≤ c ∧ c ≤ 9223372036854775807 := by have h1 := hZ.1; have h2 := hZ.2.1; rw [← HK.out.1] at h1; exact ⟨h1, h2⟩
    obtain ⟨hb11, hb12⟩ := hb1
    obtain ⟨hb21, hb22⟩ := hb2
    obtain ⟨ta, hta⟩ : ∃ ta, ta = t.a := ⟨_, rfl⟩
    obtain ⟨tl, htl⟩ : ∃ tl, tl = t.ns.length := ⟨_, rfl⟩
    obtain ⟨tcc, htcc⟩ : ∃ tcc, tcc = t.c := ⟨_, rfl⟩
    obtain ⟨ttr, httr⟩ : ∃ ttr, ttr = t.tr := ⟨_, rfl⟩
    obtain ⟨twt, htwt⟩ : ∃ twt, twt = t.wt := ⟨_, rfl⟩
    obtain ⟨tle, htle⟩ : ∃ tle, tle = t.le := ⟨_, rfl⟩
    rw [← hta, ← htl, ← htcc, ← httr, ← htwt, ← htle] at cE
    have HTC : Hid (ta = t.a ∧ tl = t.ns.length ∧ tcc = t.c ∧ ttr = t.tr ∧ twt = t.wt ∧ tle = t.le) := ⟨hta, htl, htcc, httr, htwt, htle⟩
    obtain ⟨si, st, sd, sk, sr⟩ := s
    dsimp only at *
    have HSZ : Hid (w.heap.size + 2 ≤ wr.heap.size) := by show _ ≤ _; have := BY.lt (by simp); omega
    clear ho hs h2 hd ht htp hrt hst0 hxs hex hXf hms hmi hml hzn hta htl htcc httr htwt htle hag
    go_wp2_with (go_at_call 46; refine cO.mono ?_; rintro e Y ⟨rfl, hb⟩; clear x0 x1 x2 x3 x4; replace BX := BX.below hb; replace BY := BY.below hb; have HZS : Hid (IsZ Y (some ⟨b, o, none⟩) c zs) := hZ.below hb; have hBY := Below.tr hB hb; have x0 := BX.1 0 _ rfl; have x1 := BX.1 1 _ rfl; have x2 := BX.1 2 _ rfl; have x3 := BX.1 3 _ rfl; have x4 := BX.1 4 _ rfl; obtain ⟨y0, y1, y2, y3, -⟩ := (HT.out.below hBY).at HTS.out; obtain ⟨p0, p1, p2, p3, p4⟩ := HZS.out.at HS.out; dsimp only at p0 p1 p2 p3 p4; rw [← HTC.out.1, ← HTC.out.2.1, ← HTC.out.2.2.1] at y0; rw [← HTC.out.2.2.2.1] at y1; rw [← HTC.out.2.2.2.2.1] at y2; rw [← HTC.out.2.2.2.2.2] at y3; have cM := (fun V a1 c1 (hV : Below Y.heap.size Y V) (hz : IsZ V a1 c1 zn) => cM0 V a1 c1 (Below.tr hBY hV) hz); have hzY : w.heap.size < Y.heap.size := BX.lt (by simp))
    refine region_chain (by kernel_rfl) [17] (seV ky nm tb to n tc js b o n c w.heap.size ix (.agg #[.slice ta tl tcc, .int .i64 ttr, .int .i64 twt, .int .i64 tle]) ⟨si, st, sd, sk, sr⟩ xs now Y.heap.size zn ms mi) (withS Y w.heap.size ky nm (some ⟨tb, to, none⟩) n tc mi n ms) (Turns (fun k => k = w.heap.size)) (by kernel_rfl) (by kernel_rfl) (seV_mono hzY) (Below.refl _ _).drew ?step 18 rfl ?done
    case step =>
     intro i oo ho q a9 X hq hmay hS hdf hsz hdep hsame
     simp only [List.length_cons, List.length_nil] at hq
     match i, ho with
     | 0, ho =>
      cases ho
      have h2 := hsame 2 rfl
      have hq0 : q = 0 := by
       clear hS hdep hsame
       rcases (by omega : q = 0 ∨ q = 1) with rfl | rfl <;> first | rfl | exact absurd hmay (Bool.eq_false_iff.1 (by kernel_rfl))
      subst hq0
      have g0 := cell_below hS x0
      have g1 := cell_below hS x1
      have g2 := cell_below hS x2
      have g3 := cell_below hS x3
      have g4 := cell_below hS x4
      exact op_value rfl (wanted_free rfl) (by clear hdep hsame hsz hdf; go_simp) rfl (by rw [if_neg (by decide)]; exact hS) (Turns.refl _ _)
     | 1, ho =>
      cases ho
      have h5 := hsame 5 rfl
      exact op_value rfl (wanted_free rfl) (by clear hdep hsame hsz hdf; go_simp) rfl (by rw [if_neg (by decide)]; exact hS) (Turns.refl _ _)
     | 2, ho =>
      cases ho
      have h2 := hsame 2 rfl
      exact op_value rfl (wanted_free rfl) (by clear hdep hsame hsz hdf; go_simp) rfl (by rw [if_neg (by decide)]; exact hS) (Turns.refl _ _)
     | 3, ho =>
      cases ho
      obtain ⟨_, h18, rfl⟩ := hdep 2 _ 18 rfl rfl rfl
      exact op_value rfl (wanted_free rfl) (by clear hdep hsame hsz hdf; go_simp) rfl (by rw [if_neg (by decide)]; exact hS) (Turns.refl _ _)
     | 4, ho =>
      cases ho
      obtain ⟨_, h19, rfl⟩ := hdep 3 _ 19 rfl rfl rfl
      have hq0 : q = 0 := by
       clear hS hdep hsame
       rcases (by omega : q = 0 ∨ q = 1) with rfl | rfl <;> first | rfl | exact absurd hmay (Bool.eq_false_iff.1 (by kernel_rfl))
      subst hq0
      have g2 := cell_below hS x2
      exact op_value rfl (wanted_free rfl) (by clear hdep hsame hsz hdf; go_simp) rfl (by rw [if_neg (by decide)]; exact hS) (Turns.refl _ _)
     | 5, ho =>
      cases ho
      have h5 := hsame 5 rfl
      exact op_value rfl (wanted_free rfl) (by clear hdep hsame hsz hdf; go_simp) rfl (by rw [if_neg (by decide)]; exact hS) (Turns.refl _ _)
     | 6, ho =>
      cases ho
      obtain ⟨_, h20, rfl⟩ := hdep 4 _ 20 rfl rfl rfl
      obtain ⟨_, h21, rfl⟩ := hdep 5 _ 21 rfl rfl rfl
      exact op_value rfl (wanted_free rfl) (by clear hdep hsame hsz hdf; go_simp) rfl (by rw [if_neg (by decide)]; exact hS) (Turns.refl _ _)
     | 7, ho =>
      cases ho
      obtain ⟨_, h22, rfl⟩ := hdep 6 _ 22 rfl rfl rfl
      have hq0 : q = 0 := by
       clear hS hdep hsame
       rcases (by omega : q = 0 ∨ q = 1) with rfl | rfl <;> first | rfl | exact absurd hmay (Bool.eq_false_iff.1 (by kernel_rfl))
      subst hq0
      have g0 := cell_below hS y0
      have g1 := cell_below hS y1
      have g2 := cell_below hS y2
      have g3 := cell_below hS y3
      exact op_value rfl (wanted_free rfl) (by clear hdep hsame hsz hdf; go_simp) rfl (by rw [if_neg (by decide)]; exact hS) (Turns.refl _ _)
     | 8, ho =>
      cases ho
      have h2 := hsame 2 rfl
      exact op_value rfl (wanted_free rfl) (by clear hdep hsame hsz hdf; go_simp) rfl (by rw [if_neg (by decide)]; exact hS) (Turns.refl _ _)
     | 9, ho =>
      cases ho
      obtain ⟨_, h24, rfl⟩ := hdep 8 _ 24 rfl rfl rfl
      have hq0 : q = 0 := by
       clear hS hdep hsame
       rcases (by omega : q = 0 ∨ q = 1) with rfl | rfl <;> first | rfl | exact absurd hmay (Bool.eq_false_iff.1 (by kernel_rfl))
      subst hq0
      have g4 := cell_below hS x4
      exact op_value rfl (wanted_free rfl) (by clear hdep hsame hsz hdf; go_simp) rfl (by rw [if_neg (by decide)]; exact hS) (Turns.refl _ _)
     | 10, ho =>
      cases ho
      have h5 := hsame 5 rfl
      exact op_value rfl (wanted_free rfl) (by clear hdep hsame hsz hdf; go_simp) rfl (by rw [if_neg (by decide)]; exact hS) (Turns.refl _ _)
     | 11, ho =>
      cases ho
      obtain ⟨_, h25, rfl⟩ := hdep 9 _ 25 rfl rfl rfl
      obtain ⟨_, h26, rfl⟩ := hdep 10 _ 26 rfl rfl rfl
      exact op_value rfl (wanted_free rfl) (by clear hdep hsame hsz hdf; go_simp) rfl (by rw [if_neg (by decide)]; exact hS) (Turns.refl _ _)
     | 12, ho =>
      cases ho
      obtain ⟨_, h27, rfl⟩ := hdep 11 _ 27 rfl rfl rfl
      have hq0 : q = 0 := by
       clear hS hdep hsame
       rcases (by omega : q = 0 ∨ q = 1) with rfl | rfl <;> first | rfl | exact absurd hmay (Bool.eq_false_iff.1 (by kernel_rfl))
      subst hq0
      have g0 := cell_below hS p0
      have g1 := cell_below hS p1
      have g2 := cell_below hS p2
      have g3 := cell_below hS p3
      have g4 := cell_below hS p4
      exact op_value rfl (wanted_free rfl) (by clear hdep hsame hsz hdf; go_simp) rfl (by rw [if_neg (by decide)]; exact hS) (Turns.refl _ _)
     | 13, ho =>
      cases ho
      have h1 := hsame 1 rfl
      exact op_value rfl (wanted_free rfl) (by clear hdep hsame hsz hdf; go_simp) rfl (by rw [if_neg (by decide)]; exact hS) (Turns.refl _ _)
     | 14, ho =>
      cases ho
      obtain ⟨_, h23, rfl⟩ := hdep 7 _ 23 rfl rfl rfl
      obtain ⟨_, h28, rfl⟩ := hdep 12 _ 28 rfl rfl rfl
      obtain ⟨_, h29, rfl⟩ := hdep 13 _ 29 rfl rfl rfl
      have hq0 : q = 0 := by
       clear hS hdep hsame
       rcases (by omega : q = 0 ∨ q = 1) with rfl | rfl <;> first | rfl | exact absurd hmay (Bool.eq_false_iff.1 (by kernel_rfl))
      subst hq0
      exact op_call rfl (wanted_free rfl) (by clear hdep hsame hsz hdf; go_simp) ((cE X).mono fun e X' hx => ⟨_, hx.1, rfl, by rw [if_neg (by decide)]; exact Below.tr hS hx.2, Turns.of_below hx.2⟩)
     | 15, ho =>
      cases ho
      obtain ⟨_, h16, rfl⟩ := hdep 0 _ 16 rfl rfl rfl
      obtain ⟨_, h17, rfl⟩ := hdep 1 _ 17 rfl rfl rfl
      obtain ⟨_, h30, rfl⟩ := hdep 14 _ 30 rfl rfl rfl
      have hq0 : q = 0 := by
       clear hS hdep hsame
       rcases (by omega : q = 0 ∨ q = 1) with rfl | rfl <;> first | rfl | exact absurd hmay (Bool.eq_false_iff.1 (by kernel_rfl))
      subst hq0
      refine op_call rfl (wanted_free rfl) (by clear hdep hsame hsz hdf; go_simp) ((refWith_any ky nm (some ⟨tb, to, none⟩) n tc js (some ⟨b, o, none⟩) n c zs ix xs.i xs.t xs.d xs.k xs.r X (HZS.out.below hS) HNS.out (by omega) hXt).mono ?_)
      rintro e X' ⟨a1, c1, rfl, hz1, hf1, hb1⟩
      exact ⟨_, rfl, ⟨a1, c1, rfl, by rw [HZn.out]; exact hz1, hf1.mono hS.size⟩, by rw [if_neg (by decide)]; exact Below.tr hS hb1, Turns.of_below hb1⟩
     | 16, ho =>
      cases ho
      obtain ⟨_, h31, a1, c1, rfl, hz1, hf1⟩ := hdep 15 _ 31 rfl rfl rfl
      have hq0 : q = 0 := by
       clear hS hdep hsame
       rcases (by omega : q = 0 ∨ q = 1) with rfl | rfl <;> first | rfl | exact absurd hmay (Bool.eq_false_iff.1 (by kernel_rfl))
      subst hq0
      refine op_call rfl (wanted_free rfl) (by clear hdep hsame hsz hdf hz1 hf1; go_simp) ((cM X a1 c1 hS hz1).mono ?_)
      rintro e X' ⟨v, rfl, a2, c2, rfl, hz2, hl2, hs2, hb2⟩
      exact ⟨_, rfl, ⟨a2, c2, rfl, hz2, hs2.elim (fun e => by rw [e]; exact hf1) (fun h => h.mono hS.size)⟩, by rw [if_neg (by decide)]; exact Below.tr hS hb2, Turns.of_below hb2⟩
     | 17, ho =>
      cases ho
      have h2 := hsame 2 rfl
      obtain ⟨_, h32, a2, c2, rfl, hz2, hf2⟩ := hdep 16 _ 32 rfl rfl rfl
      have hq0 : q = 0 := by
       clear hS hdep hsame
       rcases (by omega : q = 0 ∨ q = 1) with rfl | rfl <;> first | rfl | exact absurd hmay (Bool.eq_false_iff.1 (by kernel_rfl))
      subst hq0
      have GX := BX.below hS
      have g0 := GX.1 0 _ rfl
      have g1 := GX.1 1 _ rfl
      have g2 := GX.1 2 _ rfl
      have g3 := GX.1 3 _ rfl
      have g4 := GX.1 4 _ rfl
      have k0 := GX.2 0 (by simp)
      have k1 := GX.2 1 (by simp)
      have k2 := GX.2 2 (by simp)
      have k3 := GX.2 3 (by simp)
      have k4 := GX.2 4 (by simp)
      exact op_skip (w' := (((((X.setCell ⟨w.heap.size, 0, none⟩ (.string ky)).setCell ⟨w.heap.size, 1, none⟩ (.string nm)).setCell ⟨w.heap.size, 2, none⟩ (.slice (some ⟨tb, to, none⟩) n tc)).setCell ⟨w.heap.size, 3, none⟩ (.int .i64 mi)).setCell ⟨w.heap.size, 4, none⟩ (.slice a2 n c2))) rfl (wanted_free rfl) rfl (by clear hdep hsame hsz hdf hz2 hf2; go_simp) trivial (by rw [if_pos (by decide)]; exact ⟨⟨a2, c2, boxL_set5 GX _ _ _ _ _, hz2.turns (turns_set5 _ _ _ _ _ _ _) (fun y hy hk => by have := hf2 y hy; have hk' : y.block = w.heap.size := hk; omega), hf2⟩, (Turns.of_below hS).trans (turns_set5 _ _ _ _ _ _ _)⟩) (turns_set5 _ _ _ _ _ _ _)
     | k + 18, ho => simp at ho
    case done =>
     intro val V hS hV
     obtain ⟨⟨a1, c1, BV, hzV, hfV⟩, tV⟩ := hS
     have BYV := boxL_turns BY tV (by omega)
     have hBV := Below.turns hBY tV (fun k hk => by omega)
     have HZV : Hid (IsZ V a1 c1 ms) := hzV
     have hyl := BY.lt (by simp)
     have HAV : Hid (∀ y, a1 = some y → y.block ≠ w.heap.size ∧ y.block ≠ w.heap.size + 1) := fun y hy => by have := hfV y hy; omega
     clear hV hzV hfV x0 x1 x2 x3 x4 y0 y1 y2 y3 p0 p1 p2 p3 p4 cM cM0 cE
     simp [filledN]
     go_wp2
     go_roundw
     case rel => exact ⟨m + 1, a1, c1, ms, mi, by omega, by go_num, BV, BYV, HZV.out, HM.out, HAV.out, hBV⟩
     case measure => simp [intOf]; omega
  ·
   obtain rfl : n = m := by omega
   have hx : ¬ (n : Int) < n := by omega
   have HE : Hid (SR = (zs, js)) := by
    show _ = _
    have := HK.out.2.2
    rw [Nat.sub_self] at this
    exact this.symm
   obtain ⟨Z, hZ9⟩ : ∃ Z, Z = (((((wr.setCell ⟨w.heap.size + 1, 0, none⟩ (.string ky)).setCell ⟨w.heap.size + 1, 1, none⟩ (.string nm)).setCell ⟨w.heap.size + 1, 2, none⟩ (.slice (some ⟨tb, to, none⟩) n tc)).setCell ⟨w.heap.size + 1, 3, none⟩ (.int .i64 js)).setCell ⟨w.heap.size + 1, 4, none⟩ (.slice a n c)) := ⟨_, rfl⟩
   have BZ : BoxL Z (w.heap.size + 1) [.string ky, .string nm, .slice (some ⟨tb, to, none⟩) n tc, .int .i64 js, .slice a n c] := by rw [hZ9]; exact boxL_set5 BY _ _ _ _ _
   have TZ : Turns (fun k => k = w.heap.size + 1) wr Z := by rw [hZ9]; exact turns_set5 _ _ _ _ _ _ _
   have hBZ := Below.turns hB TZ (fun k hk => by omega)
   have HF : Hid (IsZ Z a c zs) := hZ.turns TZ fun y hy hk => (HA.out y hy).2 hk
   have x0 := BX.1 0 _ rfl; have x1 := BX.1 1 _ rfl; have x2 := BX.1 2 _ rfl; have x3 := BX.1 3 _ rfl; have x4 := BX.1 4 _ rfl
   have v0 := BY.1 0 _ rfl; have v1 := BY.1 1 _ rfl; have v2 := BY.1 2 _ rfl; have v3 := BY.1 3 _ rfl; have v4 := BY.1 4 _ rfl
   have d0 := BY.2 0 (by simp); have d1 := BY.2 1 (by simp); have d2 := BY.2 2 (by simp); have d3 := BY.2 3 (by simp); have d4 := BY.2 4 (by simp)
   have r0 := BZ.1 0 _ rfl; have r1 := BZ.1 1 _ rfl; have r2 := BZ.1 2 _ rfl; have r3 := BZ.1 3 _ rfl; have r4 := BZ.1 4 _ rfl
   clear BX BY hZ BZ TZ hB
   go_wp2
   rw [← hZ9]
   refine bodyPost_ret (v := .agg #[.string ky, .string nm, .slice (some ⟨tb, to, none⟩) n tc, .int .i64 js, .slice a n c]) (by simp [results, Try.results18, go_sem, r0, r1, r2, r3, r4]) rfl ?_
   rw [HE.out]
   exact ⟨a, c, rfl, HF.out, HK.out.1, hBZ⟩
end Go.Proofs.Ytpjaeaepifpmjaa
namespace Go.Proofs.Ytpjaeaepifpmjaa
open Go.RowKit Plain
set_option linter.unusedVariables false
set_option maxRecDepth 20000 in
set_option maxHeartbeats 2000000 in
theorem refFits_any (ky nm : ByteArray) (ta : Option Addr) (tn tc : Nat) (is : Int) (sa : Option Addr) (n sc : Nat) (ss : List StP) (w : World) (hZ : IsZ w sa sc ss) (hn : n = ss.length) :
  Calls Try.prog 39 #[.agg #[.string ky, .string nm, .slice ta tn tc, .int .i64 is, .slice sa n sc]] w fun e w' => e = .returned (.bool (fitsS ss is)) ∧ Below w.heap.size w w' := by
 have c4 := fun W (h : Below w.heap.size w W) => refHas_any ky nm ta tn tc is sa n sc ss 4 W (hZ.below h) hn
 have c5 := fun W (h : Below w.heap.size w W) => refHas_any ky nm ta tn tc is sa n sc ss 5 W (hZ.below h) hn
 have cO := fun W (h : Below w.heap.size w W) => refOpen_any ky nm ta tn tc is sa n sc ss W (hZ.below h) hn
 have E : Hid (fitsS ss is = if openS ss = false ∧ hasK ss 4 = false ∧ hasK ss 5 = false then decide (is = 1) else if hasK ss 4 = true then decide (is = 2) && !openS ss else if openS ss = false then decide (is = 3) else decide (is = 0) && !hasK ss 5) := rfl
 have hB0 : Below w.heap.size w (w.alloc (.cells #[.string ky, .string nm, .slice ta tn tc, .int .i64 is, .slice sa n sc] 27)) := (Below.refl _ _).alloc (Nat.le_refl _) _
 generalize fitsS ss is = F at *
 generalize openS ss = O at *
 generalize hasK ss 4 = H4 at *
 generalize hasK ss 5 = H5 at *
 clear hZ hn
 have t1 := trivial
 have t4 := trivial
 cases H4
 ·
  cases O
  ·
   have t5 := trivial
   cases H5
   ·
    go_enter Try.func39, Try.ntmps39
    go_wp2_with (first
     | (have _t := t1; go_at_call 81; refine (cO _ hB0).mono ?_; clear t1 _t; rintro e w1 ⟨rfl, hb⟩; obtain ⟨br, hB⟩ := boxesR w [.string ky, .string nm, .slice ta tn tc, .int .i64 is, .slice sa n sc] 27 hb; clear hb; have q0 := br.1 0 _ rfl; have q1 := br.1 1 _ rfl; have q2 := br.1 2 _ rfl; have q3 := br.1 3 _ rfl; have q4 := br.1 4 _ rfl)
     | (go_at_call 81; refine (cO _ hB).mono ?_; rintro e w2 ⟨rfl, hb⟩; clear q0 q1 q2 q3 q4; replace br := br.below hb; replace hB := Below.tr hB hb; clear hb; have q0 := br.1 0 _ rfl; have q1 := br.1 1 _ rfl; have q2 := br.1 2 _ rfl; have q3 := br.1 3 _ rfl; have q4 := br.1 4 _ rfl)
     | (have _t := t4; go_at_call 27; refine (c4 _ hB).mono ?_; clear t4 _t; rintro e w3 ⟨rfl, hb⟩; clear q0 q1 q2 q3 q4; replace br := br.below hb; replace hB := Below.tr hB hb; clear hb; have q0 := br.1 0 _ rfl; have q1 := br.1 1 _ rfl; have q2 := br.1 2 _ rfl; have q3 := br.1 3 _ rfl; have q4 := br.1 4 _ rfl)
     | (have _t := t5; go_at_call 27; refine (c5 _ hB).mono ?_; clear t5 _t; rintro e w3 ⟨rfl, hb⟩; clear q0 q1 q2 q3 q4; replace br := br.below hb; replace hB := Below.tr hB hb; clear hb; have q0 := br.1 0 _ rfl; have q1 := br.1 1 _ rfl; have q2 := br.1 2 _ rfl; have q3 := br.1 3 _ rfl; have q4 := br.1 4 _ rfl)
     | (go_at_call 27; refine (c4 _ hB).mono ?_; rintro e w3 ⟨rfl, hb⟩; clear q0 q1 q2 q3 q4; replace br := br.below hb; replace hB := Below.tr hB hb; clear hb; have q0 := br.1 0 _ rfl; have q1 := br.1 1 _ rfl; have q2 := br.1 2 _ rfl; have q3 := br.1 3 _ rfl; have q4 := br.1 4 _ rfl))
    go_ret
    exact ⟨ret_bool (by rw [E.out]; first | rfl | (simp; done) | simp [true_and]), hB⟩
   ·
    go_enter Try.func39, Try.ntmps39
    go_wp2_with (first
     | (have _t := t1; go_at_call 81; refine (cO _ hB0).mono ?_; clear t1 _t; rintro e w1 ⟨rfl, hb⟩; obtain ⟨br, hB⟩ := boxesR w [.string ky, .string nm, .slice ta tn tc, .int .i64 is, .slice sa n sc] 27 hb; clear hb; have q0 := br.1 0 _ rfl; have q1 := br.1 1 _ rfl; have q2 := br.1 2 _ rfl; have q3 := br.1 3 _ rfl; have q4 := br.1 4 _ rfl)
     | (go_at_call 81; refine (cO _ hB).mono ?_; rintro e w2 ⟨rfl, hb⟩; clear q0 q1 q2 q3 q4; replace br := br.below hb; replace hB := Below.tr hB hb; clear hb; have q0 := br.1 0 _ rfl; have q1 := br.1 1 _ rfl; have q2 := br.1 2 _ rfl; have q3 := br.1 3 _ rfl; have q4 := br.1 4 _ rfl)
     | (have _t := t4; go_at_call 27; refine (c4 _ hB).mono ?_; clear t4 _t; rintro e w3 ⟨rfl, hb⟩; clear q0 q1 q2 q3 q4; replace br := br.below hb; replace hB := Below.tr hB hb; clear hb; have q0 := br.1 0 _ rfl; have q1 := br.1 1 _ rfl; have q2 := br.1 2 _ rfl; have q3 := br.1 3 _ rfl; have q4 := br.1 4 _ rfl)
     | (have _t := t5; go_at_call 27; refine (c5 _ hB).mono ?_; clear t5 _t; rintro e w3 ⟨rfl, hb⟩; clear q0 q1 q2 q3 q4; replace br := br.below hb; replace hB := Below.tr hB hb; clear hb; have q0 := br.1 0 _ rfl; have q1 := br.1 1 _ rfl; have q2 := br.1 2 _ rfl; have q3 := br.1 3 _ rfl; have q4 := br.1 4 _ rfl)
     | (go_at_call 27; refine (c4 _ hB).mono ?_; rintro e w3 ⟨rfl, hb⟩; clear q0 q1 q2 q3 q4; replace br := br.below hb; replace hB := Below.tr hB hb; clear hb; have q0 := br.1 0 _ rfl; have q1 := br.1 1 _ rfl; have q2 := br.1 2 _ rfl; have q3 := br.1 3 _ rfl; have q4 := br.1 4 _ rfl))
    go_ret
    exact ⟨ret_bool (by rw [E.out]; first | rfl | (simp; done) | simp [true_and]), hB⟩
  ·
   by_cases h0 : is = 0
   ·
    have i0 : (is == 0) = true := by simpa using h0
    have HH : Hid (is = 0) := h0
    have t5 := trivial
    clear h0
    cases H5
    ·
     go_enter Try.func39, Try.ntmps39
     go_wp2_with (first
      | (have _t := t1; go_at_call 81; refine (cO _ hB0).mono ?_; clear t1 _t; rintro e w1 ⟨rfl, hb⟩; obtain ⟨br, hB⟩ := boxesR w [.string ky, .string nm, .slice ta tn tc, .int .i64 is, .slice sa n sc] 27 hb; clear hb; have q0 := br.1 0 _ rfl; have q1 := br.1 1 _ rfl; have q2 := br.1 2 _ rfl; have q3 := br.1 3 _ rfl; have q4 := br.1 4 _ rfl)
      | (go_at_call 81; refine (cO _ hB).mono ?_; rintro e w2 ⟨rfl, hb⟩; clear q0 q1 q2 q3 q4; replace br := br.below hb; replace hB := Below.tr hB hb; clear hb; have q0 := br.1 0 _ rfl; have q1 := br.1 1 _ rfl; have q2 := br.1 2 _ rfl; have q3 := br.1 3 _ rfl; have q4 := br.1 4 _ rfl)
      | (have _t := t4; go_at_call 27; refine (c4 _ hB).mono ?_; clear t4 _t; rintro e w3 ⟨rfl, hb⟩; clear q0 q1 q2 q3 q4; replace br := br.below hb; replace hB := Below.tr hB hb; clear hb; have q0 := br.1 0 _ rfl; have q1 := br.1 1 _ rfl; have q2 := br.1 2 _ rfl; have q3 := br.1 3 _ rfl; have q4 := br.1 4 _ rfl)
      | (have _t := t5; go_at_call 27; refine (c5 _ hB).mono ?_; clear t5 _t; rintro e w3 ⟨rfl, hb⟩; clear q0 q1 q2 q3 q4; replace br := br.below hb; replace hB := Below.tr hB hb; clear hb; have q0 := br.1 0 _ rfl; have q1 := br.1 1 _ rfl; have q2 := br.1 2 _ rfl; have q3 := br.1 3 _ rfl; have q4 := br.1 4 _ rfl)
      | (go_at_call 27; refine (c4 _ hB).mono ?_; rintro e w3 ⟨rfl, hb⟩; clear q0 q1 q2 q3 q4; replace br := br.below hb; replace hB := Below.tr hB hb; clear hb; have q0 := br.1 0 _ rfl; have q1 := br.1 1 _ rfl; have q2 := br.1 2 _ rfl; have q3 := br.1 3 _ rfl; have q4 := br.1 4 _ rfl))
     go_ret
     exact ⟨ret_bool (by rw [E.out]; first | rfl | (simp; done) | simp [HH.out]), hB⟩
    ·
     go_enter Try.func39, Try.ntmps39
     go_wp2_with (first
      | (have _t := t1; go_at_call 81; refine (cO _ hB0).mono ?_; clear t1 _t; rintro e w1 ⟨rfl, hb⟩; obtain ⟨br, hB⟩ := boxesR w [.string ky, .string nm, .slice ta tn tc, .int .i64 is, .slice sa n sc] 27 hb; clear hb; have q0 := br.1 0 _ rfl; have q1 := br.1 1 _ rfl; have q2 := br.1 2 _ rfl; have q3 := br.1 3 _ rfl; have q4 := br.1 4 _ rfl)
      | (go_at_call 81; refine (cO _ hB).mono ?_; rintro e w2 ⟨rfl, hb⟩; clear q0 q1 q2 q3 q4; replace br := br.below hb; replace hB := Below.tr hB hb; clear hb; have q0 := br.1 0 _ rfl; have q1 := br.1 1 _ rfl; have q2 := br.1 2 _ rfl; have q3 := br.1 3 _ rfl; have q4 := br.1 4 _ rfl)
      | (have _t := t4; go_at_call 27; refine (c4 _ hB).mono ?_; clear t4 _t; rintro e w3 ⟨rfl, hb⟩; clear q0 q1 q2 q3 q4; replace br := br.below hb; replace hB := Below.tr hB hb; clear hb; have q0 := br.1 0 _ rfl; have q1 := br.1 1 _ rfl; have q2 := br.1 2 _ rfl; have q3 := br.1 3 _ rfl; have q4 := br.1 4 _ rfl)
      | (have _t := t5; go_at_call 27; refine (c5 _ hB).mono ?_; clear t5 _t; rintro e w3 ⟨rfl, hb⟩; clear q0 q1 q2 q3 q4; replace br := br.below hb; replace hB := Below.tr hB hb; clear hb; have q0 := br.1 0 _ rfl; have q1 := br.1 1 _ rfl; have q2 := br.1 2 _ rfl; have q3 := br.1 3 _ rfl; have q4 := br.1 4 _ rfl)
      | (go_at_call 27; refine (c4 _ hB).mono ?_; rintro e w3 ⟨rfl, hb⟩; clear q0 q1 q2 q3 q4; replace br := br.below hb; replace hB := Below.tr hB hb; clear hb; have q0 := br.1 0 _ rfl; have q1 := br.1 1 _ rfl; have q2 := br.1 2 _ rfl; have q3 := br.1 3 _ rfl; have q4 := br.1 4 _ rfl))
     go_ret
     exact ⟨ret_bool (by rw [E.out]; first | rfl | (simp; done) | simp [HH.out]), hB⟩
   ·
    have i0 : (is == 0) = false := by simpa using h0
    go_enter Try.func39, Try.ntmps39
    go_wp2_with (first
     | (have _t := t1; go_at_call 81; refine (cO _ hB0).mono ?_; clear t1 _t; rintro e w1 ⟨rfl, hb⟩; obtain ⟨br, hB⟩ := boxesR w [.string ky, .string nm, .slice ta tn tc, .int .i64 is, .slice sa n sc] 27 hb; clear hb; have q0 := br.1 0 _ rfl; have q1 := br.1 1 _ rfl; have q2 := br.1 2 _ rfl; have q3 := br.1 3 _ rfl; have q4 := br.1 4 _ rfl)
     | (go_at_call 81; refine (cO _ hB).mono ?_; rintro e w2 ⟨rfl, hb⟩; clear q0 q1 q2 q3 q4; replace br := br.below hb; replace hB := Below.tr hB hb; clear hb; have q0 := br.1 0 _ rfl; have q1 := br.1 1 _ rfl; have q2 := br.1 2 _ rfl; have q3 := br.1 3 _ rfl; have q4 := br.1 4 _ rfl)
     | (have _t := t4; go_at_call 27; refine (c4 _ hB).mono ?_; clear t4 _t; rintro e w3 ⟨rfl, hb⟩; clear q0 q1 q2 q3 q4; replace br := br.below hb; replace hB := Below.tr hB hb; clear hb; have q0 := br.1 0 _ rfl; have q1 := br.1 1 _ rfl; have q2 := br.1 2 _ rfl; have q3 := br.1 3 _ rfl; have q4 := br.1 4 _ rfl)
     | (have _t := t5; go_at_call 27; refine (c5 _ hB).mono ?_; clear t5 _t; rintro e w3 ⟨rfl, hb⟩; clear q0 q1 q2 q3 q4; replace br := br.below hb; replace hB := Below.tr hB hb; clear hb; have q0 := br.1 0 _ rfl; have q1 := br.1 1 _ rfl; have q2 := br.1 2 _ rfl; have q3 := br.1 3 _ rfl; have q4 := br.1 4 _ rfl)
     | (go_at_call 27; refine (c4 _ hB).mono ?_; rintro e w3 ⟨rfl, hb⟩; clear q0 q1 q2 q3 q4; replace br := br.below hb; replace hB := Below.tr hB hb; clear hb; have q0 := br.1 0 _ rfl; have q1 := br.1 1 _ rfl; have q2 := br.1 2 _ rfl; have q3 := br.1 3 _ rfl; have q4 := br.1 4 _ rfl))
    go_ret
    exact ⟨ret_bool (by rw [E.out]; first | rfl | (simp; done) | simp [h0]), hB⟩
 ·
  by_cases h2 : is = 2
  ·
   have i2 : (is == 2) = true := by simpa using h2
   have HH : Hid (is = 2) := h2
   clear h2
   cases O
   ·
    go_enter Try.func39, Try.ntmps39
    go_wp2_with (first
     | (have _t := t1; go_at_call 81; refine (cO _ hB0).mono ?_; clear t1 _t; rintro e w1 ⟨rfl, hb⟩; obtain ⟨br, hB⟩ := boxesR w [.string ky, .string nm, .slice ta tn tc, .int .i64 is, .slice sa n sc] 27 hb; clear hb; have q0 := br.1 0 _ rfl; have q1 := br.1 1 _ rfl; have q2 := br.1 2 _ rfl; have q3 := br.1 3 _ rfl; have q4 := br.1 4 _ rfl)
     | (go_at_call 81; refine (cO _ hB).mono ?_; rintro e w2 ⟨rfl, hb⟩; clear q0 q1 q2 q3 q4; replace br := br.below hb; replace hB := Below.tr hB hb; clear hb; have q0 := br.1 0 _ rfl; have q1 := br.1 1 _ rfl; have q2 := br.1 2 _ rfl; have q3 := br.1 3 _ rfl; have q4 := br.1 4 _ rfl)
     | (have _t := t4; go_at_call 27; refine (c4 _ hB).mono ?_; clear t4 _t; rintro e w3 ⟨rfl, hb⟩; clear q0 q1 q2 q3 q4; replace br := br.below hb; replace hB := Below.tr hB hb; clear hb; have q0 := br.1 0 _ rfl; have q1 := br.1 1 _ rfl; have q2 := br.1 2 _ rfl; have q3 := br.1 3 _ rfl; have q4 := br.1 4 _ rfl)
     | (have _t := t5; go_at_call 27; refine (c5 _ hB).mono ?_; clear t5 _t; rintro e w3 ⟨rfl, hb⟩; clear q0 q1 q2 q3 q4; replace br := br.below hb; replace hB := Below.tr hB hb; clear hb; have q0 := br.1 0 _ rfl; have q1 := br.1 1 _ rfl; have q2 := br.1 2 _ rfl; have q3 := br.1 3 _ rfl; have q4 := br.1 4 _ rfl)
     | (go_at_call 27; refine (c4 _ hB).mono ?_; rintro e w3 ⟨rfl, hb⟩; clear q0 q1 q2 q3 q4; replace br := br.below hb; replace hB := Below.tr hB hb; clear hb; have q0 := br.1 0 _ rfl; have q1 := br.1 1 _ rfl; have q2 := br.1 2 _ rfl; have q3 := br.1 3 _ rfl; have q4 := br.1 4 _ rfl))
    go_ret
    exact ⟨ret_bool (by rw [E.out]; first | rfl | (simp; done) | simp [HH.out]), hB⟩
   ·
    go_enter Try.func39, Try.ntmps39
    go_wp2_with (first
     | (have _t := t1; go_at_call 81; refine (cO _ hB0).mono ?_; clear t1 _t; rintro e w1 ⟨rfl, hb⟩; obtain ⟨br, hB⟩ := boxesR w [.string ky, .string nm, .slice ta tn tc, .int .i64 is, .slice sa n sc] 27 hb; clear hb; have q0 := br.1 0 _ rfl; have q1 := br.1 1 _ rfl; have q2 := br.1 2 _ rfl; have q3 := br.1 3 _ rfl; have q4 := br.1 4 _ rfl)
     | (go_at_call 81; refine (cO _ hB).mono ?_; rintro e w2 ⟨rfl, hb⟩; clear q0 q1 q2 q3 q4; replace br := br.below hb; replace hB := Below.tr hB hb; clear hb; have q0 := br.1 0 _ rfl; have q1 := br.1 1 _ rfl; have q2 := br.1 2 _ rfl; have q3 := br.1 3 _ rfl; have q4 := br.1 4 _ rfl)
     | (have _t := t4; go_at_call 27; refine (c4 _ hB).mono ?_; clear t4 _t; rintro e w3 ⟨rfl, hb⟩; clear q0 q1 q2 q3 q4; replace br := br.below hb; replace hB := Below.tr hB hb; clear hb; have q0 := br.1 0 _ rfl; have q1 := br.1 1 _ rfl; have q2 := br.1 2 _ rfl; have q3 := br.1 3 _ rfl; have q4 := br.1 4 _ rfl)
     | (have _t := t5; go_at_call 27; refine (c5 _ hB).mono ?_; clear t5 _t; rintro e w3 ⟨rfl, hb⟩; clear q0 q1 q2 q3 q4; replace br := br.below hb; replace hB := Below.tr hB hb; clear hb; have q0 := br.1 0 _ rfl; have q1 := br.1 1 _ rfl; have q2 := br.1 2 _ rfl; have q3 := br.1 3 _ rfl; have q4 := br.1 4 _ rfl)
     | (go_at_call 27; refine (c4 _ hB).mono ?_; rintro e w3 ⟨rfl, hb⟩; clear q0 q1 q2 q3 q4; replace br := br.below hb; replace hB := Below.tr hB hb; clear hb; have q0 := br.1 0 _ rfl; have q1 := br.1 1 _ rfl; have q2 := br.1 2 _ rfl; have q3 := br.1 3 _ rfl; have q4 := br.1 4 _ rfl))
    go_ret
    exact ⟨ret_bool (by rw [E.out]; first | rfl | (simp; done) | simp [HH.out]), hB⟩
  ·
   have i2 : (is == 2) = false := by simpa using h2
   cases O
   ·
    go_enter Try.func39, Try.ntmps39
    go_wp2_with (first
     | (have _t := t1; go_at_call 81; refine (cO _ hB0).mono ?_; clear t1 _t; rintro e w1 ⟨rfl, hb⟩; obtain ⟨br, hB⟩ := boxesR w [.string ky, .string nm, .slice ta tn tc, .int .i64 is, .slice sa n sc] 27 hb; clear hb; have q0 := br.1 0 _ rfl; have q1 := br.1 1 _ rfl; have q2 := br.1 2 _ rfl; have q3 := br.1 3 _ rfl; have q4 := br.1 4 _ rfl)
     | (go_at_call 81; refine (cO _ hB).mono ?_; rintro e w2 ⟨rfl, hb⟩; clear q0 q1 q2 q3 q4; replace br := br.below hb; replace hB := Below.tr hB hb; clear hb; have q0 := br.1 0 _ rfl; have q1 := br.1 1 _ rfl; have q2 := br.1 2 _ rfl; have q3 := br.1 3 _ rfl; have q4 := br.1 4 _ rfl)
     | (have _t := t4; go_at_call 27; refine (c4 _ hB).mono ?_; clear t4 _t; rintro e w3 ⟨rfl, hb⟩; clear q0 q1 q2 q3 q4; replace br := br.below hb; replace hB := Below.tr hB hb; clear hb; have q0 := br.1 0 _ rfl; have q1 := br.1 1 _ rfl; have q2 := br.1 2 _ rfl; have q3 := br.1 3 _ rfl; have q4 := br.1 4 _ rfl)
     | (have _t := t5; go_at_call 27; refine (c5 _ hB).mono ?_; clear t5 _t; rintro e w3 ⟨rfl, hb⟩; clear q0 q1 q2 q3 q4; replace br := br.below hb; replace hB := Below.tr hB hb; clear hb; have q0 := br.1 0 _ rfl; have q1 := br.1 1 _ rfl; have q2 := br.1 2 _ rfl; have q3 := br.1 3 _ rfl; have q4 := br.1 4 _ rfl)
     | (go_at_call 27; refine (c4 _ hB).mono ?_; rintro e w3 ⟨rfl, hb⟩; clear q0 q1 q2 q3 q4; replace br := br.below hb; replace hB := Below.tr hB hb; clear hb; have q0 := br.1 0 _ rfl; have q1 := br.1 1 _ rfl; have q2 := br.1 2 _ rfl; have q3 := br.1 3 _ rfl; have q4 := br.1 4 _ rfl))
    go_ret
    exact ⟨ret_bool (by rw [E.out]; first | rfl | (simp; done) | simp [h2]), hB⟩
   ·
    go_enter Try.func39, Try.ntmps39
    go_wp2_with (first
     | (have _t := t1; go_at_call 81; refine (cO _ hB0).mono ?_; clear t1 _t; rintro e w1 ⟨rfl, hb⟩; obtain ⟨br, hB⟩ := boxesR w [.string ky, .string nm, .slice ta tn tc, .int .i64 is, .slice sa n sc] 27 hb; clear hb; have q0 := br.1 0 _ rfl; have q1 := br.1 1 _ rfl; have q2 := br.1 2 _ rfl; have q3 := br.1 3 _ rfl; have q4 := br.1 4 _ rfl)
     | (go_at_call 81; refine (cO _ hB).mono ?_; rintro e w2 ⟨rfl, hb⟩; clear q0 q1 q2 q3 q4; replace br := br.below hb; replace hB := Below.tr hB hb; clear hb; have q0 := br.1 0 _ rfl; have q1 := br.1 1 _ rfl; have q2 := br.1 2 _ rfl; have q3 := br.1 3 _ rfl; have q4 := br.1 4 _ rfl)
     | (have _t := t4; go_at_call 27; refine (c4 _ hB).mono ?_; clear t4 _t; rintro e w3 ⟨rfl, hb⟩; clear q0 q1 q2 q3 q4; replace br := br.below hb; replace hB := Below.tr hB hb; clear hb; have q0 := br.1 0 _ rfl; have q1 := br.1 1 _ rfl; have q2 := br.1 2 _ rfl; have q3 := br.1 3 _ rfl; have q4 := br.1 4 _ rfl)
     | (have _t := t5; go_at_call 27; refine (c5 _ hB).mono ?_; clear t5 _t; rintro e w3 ⟨rfl, hb⟩; clear q0 q1 q2 q3 q4; replace br := br.below hb; replace hB := Below.tr hB hb; clear hb; have q0 := br.1 0 _ rfl; have q1 := br.1 1 _ rfl; have q2 := br.1 2 _ rfl; have q3 := br.1 3 _ rfl; have q4 := br.1 4 _ rfl)
     | (go_at_call 27; refine (c4 _ hB).mono ?_; rintro e w3 ⟨rfl, hb⟩; clear q0 q1 q2 q3 q4; replace br := br.below hb; replace hB := Below.tr hB hb; clear hb; have q0 := br.1 0 _ rfl; have q1 := br.1 1 _ rfl; have q2 := br.1 2 _ rfl; have q3 := br.1 3 _ rfl; have q4 := br.1 4 _ rfl))
    go_ret
    exact ⟨ret_bool (by rw [E.out]; first | rfl | (simp; done) | simp [h2]), hB⟩
set_option maxRecDepth 20000 in
set_option maxHeartbeats 4000000 in
theorem refStands_any (i t d k : Int) (r : ByteArray) (w : World) (hz : r.size ≤ maxLen) :
  Calls Try.prog 82 #[.agg #[.int .i64 i, .int .i64 t, .int .i64 d, .int .i64 k, .string r]] w fun e w' => e = .returned (.bool (standT ⟨i, t, d, k, r⟩)) ∧ Below w.heap.size w w' := by
 have hB : Below w.heap.size w (w.alloc (.cells #[.int .i64 i, .int .i64 t, .int .i64 d, .int .i64 k, .string r] 52)) := (Below.refl _ _).alloc (Nat.le_refl _) _
 have hzi : r.size ≤ 9223372036854775807 := hz
 have no : ¬ ((0 ≤ i ∧ i ≤ 5) ∧ (0 ≤ t ∧ t ≤ 8) ∧ (0 ≤ d ∧ d ≤ 1099511627776) ∧ k ≤ 1099511627776 ∧ r.size ≤ 16) → Hid (standT ⟨i, t, d, k, r⟩ = false) := fun h => bool_false fun hh => h (by have := (standL_iff _ _ _ _ _).1 hh; omega)
 by_cases h1 : i < 0
 ·
  have hr := no (by omega)
  clear no
  go_enter Try.func82, Try.ntmps82
  go_wp2
  go_ret
  exact ⟨ret_bool hr.out.symm, hB⟩
 by_cases h2 : 5 < i
 ·
  have hr := no (by omega)
  clear no
  go_enter Try.func82, Try.ntmps82
  go_wp2
  go_ret
  exact ⟨ret_bool hr.out.symm, hB⟩
 by_cases h3 : t < 0
 ·
  have hr := no (by omega)
  clear no
  go_enter Try.func82, Try.ntmps82
  go_wp2
  go_ret
  exact ⟨ret_bool hr.out.symm, hB⟩
 by_cases h4 : 8 < t
 ·
  have hr := no (by omega)
  clear no
  go_enter Try.func82, Try.ntmps82
  go_wp2
  go_ret
  exact ⟨ret_bool hr.out.symm, hB⟩
 by_cases h5 : d < 0
 ·
  have hr := no (by omega)
  clear no
  go_enter Try.func82, Try.ntmps82
  go_wp2
  go_ret
  exact ⟨ret_bool hr.out.symm, hB⟩
 by_cases h6 : 1099511627776 < d
 ·
  have hr := no (by omega)
  clear no
  go_enter Try.func82, Try.ntmps82
  go_wp2
  go_ret
  exact ⟨ret_bool hr.out.symm, hB⟩
 by_cases h7 : 1099511627776 < k
 ·
  have hr := no (by omega)
  clear no
  go_enter Try.func82, Try.ntmps82
  go_wp2
  go_ret
  exact ⟨ret_bool hr.out.symm, hB⟩
 by_cases h8 : 16 < r.size
 ·
  have h8' : (16 : Int) < r.size := by omega
  have hr := no (by omega)
  clear no
  go_enter Try.func82, Try.ntmps82
  go_wp2
  go_ret
  exact ⟨ret_bool hr.out.symm, hB⟩
 have h8' : ¬ (16 : Int) < r.size := by omega
 clear no
 by_cases i2 : i = 2
 ·
  subst i2
  by_cases h9 : k < 1
  ·
   have hr : Hid (standT ⟨2, t, d, k, r⟩ = false) := bool_false fun hh => by have := (standL_iff _ _ _ _ _).1 hh; omega
   go_enter Try.func82, Try.ntmps82
   go_wp2
   go_ret
   exact ⟨ret_bool hr.out.symm, hB⟩
  by_cases h10 : r = ⟨#[]⟩
  ·
   have h10' := empT_true h10
   have hr : Hid (standT ⟨2, t, d, k, r⟩ = true) := (standL_iff _ _ _ _ _).2 ⟨by omega, by omega, by omega, by omega, by omega, by omega, fun _ => h10⟩
   clear h10
   go_enter Try.func82, Try.ntmps82
   go_wp2
   go_ret
   exact ⟨ret_bool hr.out.symm, hB⟩
  ·
   have h10' := empT_false h10
   have hr : Hid (standT ⟨2, t, d, k, r⟩ = false) := bool_false fun hh => h10 (((standL_iff _ _ _ _ _).1 hh).2.2.2.2.2.2 (by omega))
   clear h10
   go_enter Try.func82, Try.ntmps82
   go_wp2
   go_ret
   exact ⟨ret_bool hr.out.symm, hB⟩
 have i2' : (i == 2) = false := by simpa using i2
 have i2'' : (i != 2) = true := by simpa using i2
 by_cases h9 : k = 0
 ·
  subst h9
  by_cases i3 : i = 3
  ·
   subst i3
   have hr : Hid (standT ⟨3, t, d, 0, r⟩ = true) := (standL_iff _ _ _ _ _).2 ⟨by omega, by omega, by omega, by omega, by omega, by omega, fun hn => absurd rfl hn⟩
   go_enter Try.func82, Try.ntmps82
   go_wp2
   go_ret
   exact ⟨ret_bool hr.out.symm, hB⟩
  have i3' : (i == 3) = false := by simpa using i3
  by_cases h10 : r = ⟨#[]⟩
  ·
   have h10' := empT_true h10
   have hr : Hid (standT ⟨i, t, d, 0, r⟩ = true) := (standL_iff _ _ _ _ _).2 ⟨by omega, by omega, by omega, by omega, by omega, by omega, fun _ => h10⟩
   clear h10
   go_enter Try.func82, Try.ntmps82
   go_wp2
   go_ret
   exact ⟨ret_bool hr.out.symm, hB⟩
  ·
   have h10' := empT_false h10
   have hr : Hid (standT ⟨i, t, d, 0, r⟩ = false) := bool_false fun hh => h10 (((standL_iff _ _ _ _ _).1 hh).2.2.2.2.2.2 i3)
   clear h10
   go_enter Try.func82, Try.ntmps82
   go_wp2
   go_ret
   exact ⟨ret_bool hr.out.symm, hB⟩
 ·
  have h9' : (k != 0) = true := by simpa using h9
  have hr : Hid (standT ⟨i, t, d, k, r⟩ = false) := bool_false fun hh => h9 (((standL_iff _ _ _ _ _).1 hh).2.2.2.1.2 i2)
  go_enter Try.func82, Try.ntmps82
  go_wp2
  go_ret
  exact ⟨ret_bool hr.out.symm, hB⟩
theorem rightL_true' {tr i t d k : Int} {r : ByteArray} (h : standT ⟨i, t, d, k, r⟩ = true) (g : t ≤ tr ∧ (i = 0 → t = 0) ∧ (i = 1 → t < tr) ∧ (i = 2 ∨ i = 3 → 1 ≤ t) ∧ (i = 4 → t = tr) ∧ (d = 0 ∨ i = 1 ∨ i = 2)) : rightT tr ⟨i, t, d, k, r⟩ = true := by
 rw [rightT, h, (restL_iff _ _ _ _ _ _).2 g]; rfl
theorem rightL_false' {tr i t d k : Int} {r : ByteArray} (g : ¬ (t ≤ tr ∧ (i = 0 → t = 0) ∧ (i = 1 → t < tr) ∧ (i = 2 ∨ i = 3 → 1 ≤ t) ∧ (i = 4 → t = tr) ∧ (d = 0 ∨ i = 1 ∨ i = 2))) : rightT tr ⟨i, t, d, k, r⟩ = false :=
 bool_false fun hh => g ((restL_iff _ _ _ _ _ _).1 (right_parts hh).2)
set_option maxRecDepth 20000 in
set_option maxHeartbeats 4000000 in
theorem refRightT_any (ta : Option Addr) (tl tc : Nat) (tr wt le : Int) (i t d k : Int) (r : ByteArray) (w : World) (hz : r.size ≤ maxLen) :
  Calls Try.prog 40 #[.agg #[.slice ta tl tc, .int .i64 tr, .int .i64 wt, .int .i64 le], .agg #[.int .i64 i, .int .i64 t, .int .i64 d, .int .i64 k, .string r]] w fun e w' => e = .returned (.bool (rightT tr ⟨i, t, d, k, r⟩)) ∧ Below w.heap.size w w' := by
 have c1 := fun W => refStands_any i t d k r W hz
 cases hb : standT ⟨i, t, d, k, r⟩ with
 | false =>
  rw [hb] at c1
  have hr : Hid (rightT tr ⟨i, t, d, k, r⟩ = false) := by show _ = _; rw [rightT, hb]; rfl
  clear hb
  go_enter Try.func40, Try.ntmps40
  go_wp2_with (go_at_call 82; refine (c1 _).mono ?_; rintro e w1 ⟨rfl, hb⟩; obtain ⟨bt, bs, hB⟩ := boxes2 w [.slice ta tl tc, .int .i64 tr, .int .i64 wt, .int .i64 le] [.int .i64 i, .int .i64 t, .int .i64 d, .int .i64 k, .string r] _ _ (by simp) (by simp) hb; have x1 := bt.1 1 _ rfl; have s0 := bs.1 0 _ rfl; have s1 := bs.1 1 _ rfl; have s2 := bs.1 2 _ rfl; have s3 := bs.1 3 _ rfl; have s4 := bs.1 4 _ rfl; clear hb bt bs)
  all_goals (go_ret; exact ⟨ret_bool (by first | exact hr.out.symm | (rw [hr.out]; simp; done) | (rw [hr.out]; simp; omega)), hB⟩)
 | true =>
  rw [hb] at c1
  have hS := (standL_iff _ _ _ _ _).1 hb
  by_cases h1 : tr < t
  ·
   have hr : Hid (rightT tr ⟨i, t, d, k, r⟩ = false) := rightL_false' (by omega)
   clear hb hS
   go_enter Try.func40, Try.ntmps40
   go_wp2_with (go_at_call 82; refine (c1 _).mono ?_; rintro e w1 ⟨rfl, hb⟩; obtain ⟨bt, bs, hB⟩ := boxes2 w [.slice ta tl tc, .int .i64 tr, .int .i64 wt, .int .i64 le] [.int .i64 i, .int .i64 t, .int .i64 d, .int .i64 k, .string r] _ _ (by simp) (by simp) hb; have x1 := bt.1 1 _ rfl; have s0 := bs.1 0 _ rfl; have s1 := bs.1 1 _ rfl; have s2 := bs.1 2 _ rfl; have s3 := bs.1 3 _ rfl; have s4 := bs.1 4 _ rfl; clear hb bt bs)
   all_goals (go_ret; exact ⟨ret_bool (by first | exact hr.out.symm | (rw [hr.out]; simp; done) | (rw [hr.out]; simp; omega)), hB⟩)
  by_cases i0 : i = 0
  ·
   subst i0
   by_cases h2 : t = 0
   ·
    subst h2
    by_cases h3 : d = 0
    ·
     subst h3
     have hr : Hid (rightT tr ⟨0, 0, 0, k, r⟩ = true) := rightL_true' hb (by omega)
     clear hb hS
     go_enter Try.func40, Try.ntmps40
     go_wp2_with (go_at_call 82; refine (c1 _).mono ?_; rintro e w1 ⟨rfl, hb⟩; obtain ⟨bt, bs, hB⟩ := boxes2 w [.slice ta tl tc, .int .i64 tr, .int .i64 wt, .int .i64 le] [.int .i64 0, .int .i64 0, .int .i64 0, .int .i64 k, .string r] _ _ (by simp) (by simp) hb; have x1 := bt.1 1 _ rfl; have s0 := bs.1 0 _ rfl; have s1 := bs.1 1 _ rfl; have s2 := bs.1 2 _ rfl; have s3 := bs.1 3 _ rfl; have s4 := bs.1 4 _ rfl; clear hb bt bs)
     all_goals (go_ret; exact ⟨ret_bool (by first | exact hr.out.symm | (rw [hr.out]; simp; done) | (rw [hr.out]; simp; omega)), hB⟩)
    ·
     have h3' : (d != 0) = true := by simpa using h3
     have hr : Hid (rightT tr ⟨0, 0, d, k, r⟩ = false) := rightL_false' (by omega)
     clear hb hS
     go_enter Try.func40, Try.ntmps40
     go_wp2_with (go_at_call 82; refine (c1 _).mono ?_; rintro e w1 ⟨rfl, hb⟩; obtain ⟨bt, bs, hB⟩ := boxes2 w [.slice ta tl tc, .int .i64 tr, .int .i64 wt, .int .i64 le] [.int .i64 0, .int .i64 0, .int .i64 d, .int .i64 k, .string r] _ _ (by simp) (by simp) hb; have x1 := bt.1 1 _ rfl; have s0 := bs.1 0 _ rfl; have s1 := bs.1 1 _ rfl; have s2 := bs.1 2 _ rfl; have s3 := bs.1 3 _ rfl; have s4 := bs.1 4 _ rfl; clear hb bt bs)
     all_goals (go_ret; exact ⟨ret_bool (by first | exact hr.out.symm | (rw [hr.out]; simp; done) | (rw [hr.out]; simp; omega)), hB⟩)
   ·
    have h2' : (t != 0) = true := by simpa using h2
    have hr : Hid (rightT tr ⟨0, t, d, k, r⟩ = false) := rightL_false' (by omega)
    clear hb hS
    go_enter Try.func40, Try.ntmps40
    go_wp2_with (go_at_call 82; refine (c1 _).mono ?_; rintro e w1 ⟨rfl, hb⟩; obtain ⟨bt, bs, hB⟩ := boxes2 w [.slice ta tl tc, .int .i64 tr, .int .i64 wt, .int .i64 le] [.int .i64 0, .int .i64 t, .int .i64 d, .int .i64 k, .string r] _ _ (by simp) (by simp) hb; have x1 := bt.1 1 _ rfl; have s0 := bs.1 0 _ rfl; have s1 := bs.1 1 _ rfl; have s2 := bs.1 2 _ rfl; have s3 := bs.1 3 _ rfl; have s4 := bs.1 4 _ rfl; clear hb bt bs)
    all_goals (go_ret; exact ⟨ret_bool (by first | exact hr.out.symm | (rw [hr.out]; simp; done) | (rw [hr.out]; simp; omega)), hB⟩)
  by_cases i1 : i = 1
  ·
   subst i1
   by_cases h2 : t < tr
   ·
    have hr : Hid (rightT tr ⟨1, t, d, k, r⟩ = true) := rightL_true' hb (by omega)
    have h2' : ¬ tr ≤ t := by omega
    clear hb hS
    go_enter Try.func40, Try.ntmps40
    go_wp2_with (go_at_call 82; refine (c1 _).mono ?_; rintro e w1 ⟨rfl, hb⟩; obtain ⟨bt, bs, hB⟩ := boxes2 w [.slice ta tl tc, .int .i64 tr, .int .i64 wt, .int .i64 le] [.int .i64 1, .int .i64 t, .int .i64 d, .int .i64 k, .string r] _ _ (by simp) (by simp) hb; have x1 := bt.1 1 _ rfl; have s0 := bs.1 0 _ rfl; have s1 := bs.1 1 _ rfl; have s2 := bs.1 2 _ rfl; have s3 := bs.1 3 _ rfl; have s4 := bs.1 4 _ rfl; clear hb bt bs)
    all_goals (go_ret; exact ⟨ret_bool (by first | exact hr.out.symm | (rw [hr.out]; simp; done) | (rw [hr.out]; simp; omega)), hB⟩)
   ·
    have hr : Hid (rightT tr ⟨1, t, d, k, r⟩ = false) := rightL_false' (by omega)
    have h2' : tr ≤ t := by omega
    clear hb hS
    go_enter Try.func40, Try.ntmps40
    go_wp2_with (go_at_call 82; refine (c1 _).mono ?_; rintro e w1 ⟨rfl, hb⟩; obtain ⟨bt, bs, hB⟩ := boxes2 w [.slice ta tl tc, .int .i64 tr, .int .i64 wt, .int .i64 le] [.int .i64 1, .int .i64 t, .int .i64 d, .int .i64 k, .string r] _ _ (by simp) (by simp) hb; have x1 := bt.1 1 _ rfl; have s0 := bs.1 0 _ rfl; have s1 := bs.1 1 _ rfl; have s2 := bs.1 2 _ rfl; have s3 := bs.1 3 _ rfl; have s4 := bs.1 4 _ rfl; clear hb bt bs)
    all_goals (go_ret; exact ⟨ret_bool (by first | exact hr.out.symm | (rw [hr.out]; simp; done) | (rw [hr.out]; simp; omega)), hB⟩)
  by_cases i2 : i = 2
  ·
   subst i2
   clear i0 i1
   by_cases h2 : t < 1
   ·
    have hr : Hid (rightT tr ⟨2, t, d, k, r⟩ = false) := rightL_false' (by omega)
    clear hb hS
    go_enter Try.func40, Try.ntmps40
    go_wp2_with (go_at_call 82; refine (c1 _).mono ?_; rintro e w1 ⟨rfl, hb⟩; obtain ⟨bt, bs, hB⟩ := boxes2 w [.slice ta tl tc, .int .i64 tr, .int .i64 wt, .int .i64 le] [.int .i64 2, .int .i64 t, .int .i64 d, .int .i64 k, .string r] _ _ (by simp) (by simp) hb; have x1 := bt.1 1 _ rfl; have s0 := bs.1 0 _ rfl; have s1 := bs.1 1 _ rfl; have s2 := bs.1 2 _ rfl; have s3 := bs.1 3 _ rfl; have s4 := bs.1 4 _ rfl; clear hb bt bs)
    all_goals (go_ret; exact ⟨ret_bool (by first | exact hr.out.symm | (rw [hr.out]; simp; done) | (rw [hr.out]; simp; omega)), hB⟩)
   ·
    have hr : Hid (rightT tr ⟨2, t, d, k, r⟩ = true) := rightL_true' hb (by omega)
    clear hb hS
    go_enter Try.func40, Try.ntmps40
    go_wp2_with (go_at_call 82; refine (c1 _).mono ?_; rintro e w1 ⟨rfl, hb⟩; obtain ⟨bt, bs, hB⟩ := boxes2 w [.slice ta tl tc, .int .i64 tr, .int .i64 wt, .int .i64 le] [.int .i64 2, .int .i64 t, .int .i64 d, .int .i64 k, .string r] _ _ (by simp) (by simp) hb; have x1 := bt.1 1 _ rfl; have s0 := bs.1 0 _ rfl; have s1 := bs.1 1 _ rfl; have s2 := bs.1 2 _ rfl; have s3 := bs.1 3 _ rfl; have s4 := bs.1 4 _ rfl; clear hb bt bs)
    all_goals (go_ret; exact ⟨ret_bool (by first | exact hr.out.symm | (rw [hr.out]; simp; done) | (rw [hr.out]; simp; omega)), hB⟩)
  by_cases i3 : i = 3
  ·
   subst i3
   clear i0 i1 i2
   by_cases h2 : t < 1
   ·
    have hr : Hid (rightT tr ⟨3, t, d, k, r⟩ = false) := rightL_false' (by omega)
    clear hb hS
    go_enter Try.func40, Try.ntmps40
    go_wp2_with (go_at_call 82; refine (c1 _).mono ?_; rintro e w1 ⟨rfl, hb⟩; obtain ⟨bt, bs, hB⟩ := boxes2 w [.slice ta tl tc, .int .i64 tr, .int .i64 wt, .int .i64 le] [.int .i64 3, .int .i64 t, .int .i64 d, .int .i64 k, .string r] _ _ (by simp) (by simp) hb; have x1 := bt.1 1 _ rfl; have s0 := bs.1 0 _ rfl; have s1 := bs.1 1 _ rfl; have s2 := bs.1 2 _ rfl; have s3 := bs.1 3 _ rfl; have s4 := bs.1 4 _ rfl; clear hb bt bs)
    all_goals (go_ret; exact ⟨ret_bool (by first | exact hr.out.symm | (rw [hr.out]; simp; done) | (rw [hr.out]; simp; omega)), hB⟩)
   by_cases h3 : d = 0
   ·
    subst h3
    have hr : Hid (rightT tr ⟨3, t, 0, k, r⟩ = true) := rightL_true' hb (by omega)
    clear hb hS
    go_enter Try.func40, Try.ntmps40
    go_wp2_with (go_at_call 82; refine (c1 _).mono ?_; rintro e w1 ⟨rfl, hb⟩; obtain ⟨bt, bs, hB⟩ := boxes2 w [.slice ta tl tc, .int .i64 tr, .int .i64 wt, .int .i64 le] [.int .i64 3, .int .i64 t, .int .i64 0, .int .i64 k, .string r] _ _ (by simp) (by simp) hb; have x1 := bt.1 1 _ rfl; have s0 := bs.1 0 _ rfl; have s1 := bs.1 1 _ rfl; have s2 := bs.1 2 _ rfl; have s3 := bs.1 3 _ rfl; have s4 := bs.1 4 _ rfl; clear hb bt bs)
    all_goals (go_ret; exact ⟨ret_bool (by first | exact hr.out.symm | (rw [hr.out]; simp; done) | (rw [hr.out]; simp; omega)), hB⟩)
   ·
    have h3' : (d == 0) = false := by simpa using h3
    have hr : Hid (rightT tr ⟨3, t, d, k, r⟩ = false) := rightL_false' (by omega)
    clear hb hS
    go_enter Try.func40, Try.ntmps40
    go_wp2_with (go_at_call 82; refine (c1 _).mono ?_; rintro e w1 ⟨rfl, hb⟩; obtain ⟨bt, bs, hB⟩ := boxes2 w [.slice ta tl tc, .int .i64 tr, .int .i64 wt, .int .i64 le] [.int .i64 3, .int .i64 t, .int .i64 d, .int .i64 k, .string r] _ _ (by simp) (by simp) hb; have x1 := bt.1 1 _ rfl; have s0 := bs.1 0 _ rfl; have s1 := bs.1 1 _ rfl; have s2 := bs.1 2 _ rfl; have s3 := bs.1 3 _ rfl; have s4 := bs.1 4 _ rfl; clear hb bt bs)
    all_goals (go_ret; exact ⟨ret_bool (by first | exact hr.out.symm | (rw [hr.out]; simp; done) | (rw [hr.out]; simp; omega)), hB⟩)
  by_cases i4 : i = 4
  ·
   subst i4
   clear i0 i1 i2 i3
   by_cases h2 : t = tr
   ·
    have h2' : (t != tr) = false := by simpa using h2
    by_cases h3 : d = 0
    ·
     subst h3
     have hr : Hid (rightT tr ⟨4, t, 0, k, r⟩ = true) := rightL_true' hb (by omega)
     clear hb hS h2
     go_enter Try.func40, Try.ntmps40
     go_wp2_with (go_at_call 82; refine (c1 _).mono ?_; rintro e w1 ⟨rfl, hb⟩; obtain ⟨bt, bs, hB⟩ := boxes2 w [.slice ta tl tc, .int .i64 tr, .int .i64 wt, .int .i64 le] [.int .i64 4, .int .i64 t, .int .i64 0, .int .i64 k, .string r] _ _ (by simp) (by simp) hb; have x1 := bt.1 1 _ rfl; have s0 := bs.1 0 _ rfl; have s1 := bs.1 1 _ rfl; have s2 := bs.1 2 _ rfl; have s3 := bs.1 3 _ rfl; have s4 := bs.1 4 _ rfl; clear hb bt bs)
     all_goals (go_ret; exact ⟨ret_bool (by first | exact hr.out.symm | (rw [hr.out]; simp; done) | (rw [hr.out]; simp; omega)), hB⟩)
    ·
     have h3' : (d == 0) = false := by simpa using h3
     have hr : Hid (rightT tr ⟨4, t, d, k, r⟩ = false) := rightL_false' (by omega)
     clear hb hS h2
     go_enter Try.func40, Try.ntmps40
     go_wp2_with (go_at_call 82; refine (c1 _).mono ?_; rintro e w1 ⟨rfl, hb⟩; obtain ⟨bt, bs, hB⟩ := boxes2 w [.slice ta tl tc, .int .i64 tr, .int .i64 wt, .int .i64 le] [.int .i64 4, .int .i64 t, .int .i64 d, .int .i64 k, .string r] _ _ (by simp) (by simp) hb; have x1 := bt.1 1 _ rfl; have s0 := bs.1 0 _ rfl; have s1 := bs.1 1 _ rfl; have s2 := bs.1 2 _ rfl; have s3 := bs.1 3 _ rfl; have s4 := bs.1 4 _ rfl; clear hb bt bs)
     all_goals (go_ret; exact ⟨ret_bool (by first | exact hr.out.symm | (rw [hr.out]; simp; done) | (rw [hr.out]; simp; omega)), hB⟩)
   ·
    have h2' : (t != tr) = true := by simpa using h2
    have hr : Hid (rightT tr ⟨4, t, d, k, r⟩ = false) := rightL_false' (by omega)
    clear hb hS
    go_enter Try.func40, Try.ntmps40
    go_wp2_with (go_at_call 82; refine (c1 _).mono ?_; rintro e w1 ⟨rfl, hb⟩; obtain ⟨bt, bs, hB⟩ := boxes2 w [.slice ta tl tc, .int .i64 tr, .int .i64 wt, .int .i64 le] [.int .i64 4, .int .i64 t, .int .i64 d, .int .i64 k, .string r] _ _ (by simp) (by simp) hb; have x1 := bt.1 1 _ rfl; have s0 := bs.1 0 _ rfl; have s1 := bs.1 1 _ rfl; have s2 := bs.1 2 _ rfl; have s3 := bs.1 3 _ rfl; have s4 := bs.1 4 _ rfl; clear hb bt bs)
    all_goals (go_ret; exact ⟨ret_bool (by first | exact hr.out.symm | (rw [hr.out]; simp; done) | (rw [hr.out]; simp; omega)), hB⟩)
  obtain rfl : i = 5 := by omega
  clear i0 i1 i2 i3 i4
  by_cases h3 : d = 0
  ·
   subst h3
   have hr : Hid (rightT tr ⟨5, t, 0, k, r⟩ = true) := rightL_true' hb (by omega)
   clear hb hS
   go_enter Try.func40, Try.ntmps40
   go_wp2_with (go_at_call 82; refine (c1 _).mono ?_; rintro e w1 ⟨rfl, hb⟩; obtain ⟨bt, bs, hB⟩ := boxes2 w [.slice ta tl tc, .int .i64 tr, .int .i64 wt, .int .i64 le] [.int .i64 5, .int .i64 t, .int .i64 0, .int .i64 k, .string r] _ _ (by simp) (by simp) hb; have x1 := bt.1 1 _ rfl; have s0 := bs.1 0 _ rfl; have s1 := bs.1 1 _ rfl; have s2 := bs.1 2 _ rfl; have s3 := bs.1 3 _ rfl; have s4 := bs.1 4 _ rfl; clear hb bt bs)
   all_goals (go_ret; exact ⟨ret_bool (by first | exact hr.out.symm | (rw [hr.out]; simp; done) | (rw [hr.out]; simp; omega)), hB⟩)
  ·
   have h3' : (d == 0) = false := by simpa using h3
   have hr : Hid (rightT tr ⟨5, t, d, k, r⟩ = false) := rightL_false' (by omega)
   clear hb hS
   go_enter Try.func40, Try.ntmps40
   go_wp2_with (go_at_call 82; refine (c1 _).mono ?_; rintro e w1 ⟨rfl, hb⟩; obtain ⟨bt, bs, hB⟩ := boxes2 w [.slice ta tl tc, .int .i64 tr, .int .i64 wt, .int .i64 le] [.int .i64 5, .int .i64 t, .int .i64 d, .int .i64 k, .string r] _ _ (by simp) (by simp) hb; have x1 := bt.1 1 _ rfl; have s0 := bs.1 0 _ rfl; have s1 := bs.1 1 _ rfl; have s2 := bs.1 2 _ rfl; have s3 := bs.1 3 _ rfl; have s4 := bs.1 4 _ rfl; clear hb bt bs)
   all_goals (go_ret; exact ⟨ret_bool (by first | exact hr.out.symm | (rw [hr.out]; simp; done) | (rw [hr.out]; simp; omega)), hB⟩)
set_option maxRecDepth 20000 in
set_option maxHeartbeats 4000000 in
theorem refShaped_any (s : ByteArray) (a : Option Addr) (c n : Nat) (ts : List TaskV) (w : World) (hn : n = ts.length) (hT : IsT w a c ts) (h10 : n ≤ 10) (hs : s.size ≤ maxLen) :
  Calls Try.prog 32 #[.agg #[.string s, .slice a n c]] w fun e w' => e = .returned (.bool (nameB s && decide (0 < n) && tasksB (plainT ts))) ∧ Below w.heap.size w w' := by
 unfold maxLen at hs
 have HT : Hid (IsT w a c ts) := hT
 have HN : Hid (n = ts.length) := hn
 have HP : Hid ((plainT ts).length = n) := by show _ = _; rw [plainT_length, hn]
 clear hT hn
 have hB0 : Below w.heap.size w (w.alloc (.cells #[.string s, .slice a n c] 24)) := (Below.refl _ _).alloc (Nat.le_refl _) _
 by_cases h0 : 0 < n
 ·
  have h0' : ¬ (n : Int) < 1 := by omega
  by_cases h1 : 1 ≤ s.size
  ·
   have h1' : ¬ (s.size : Int) < 1 := by omega
   by_cases h2 : s.size ≤ 16
   ·
    have h2' : ¬ (16 : Int) < s.size := by omega
    have E : Hid (nameB s = true) := by show _ = _; unfold nameB; rw [decide_eq_true_eq]; omega
    rw [E.out, decide_eq_true h0, Bool.true_and, Bool.true_and]
    go_enter Try.func32, Try.ntmps32
    go_wp2
    go_loopw [28] (fun v wr => ∃ j : Nat, j ≤ n ∧ v = .int .i64 j ∧ Hid (TasksTo n (plainT ts) j) ∧ Below w.heap.size w wr) (fun v _ => n - (intOf v).toNat)
    case atStart => exact ⟨0, by omega, rfl, fun i t h => by omega, hB0⟩
    case round =>
     obtain ⟨j, hj, rfl, HA, hB⟩ := hrel
     by_cases hlt : j < n
     ·
      have hlt' : (j : Int) < n := by omega
      obtain ⟨t, ht⟩ : ∃ t, ts[j]? = some t := ⟨_, List.getElem?_eq_getElem (by rw [← HN.out]; exact hlt)⟩
      obtain ⟨b, o, rfl, hlb, c0, c1, c2, c3⟩ := HT.out.2.2.2 j t ht
      have z0 := cell_below hB c0
      have z1 := cell_below hB c1
      have z2 := cell_below hB c2
      have z3 := cell_below hB c3
      have hI : IsI (wr.alloc (.cells #[.slice t.a t.ns.length t.c, .int .i64 t.tr, .int .i64 t.wt, .int .i64 t.le] 50)) t.a t.c t.ns := ((HT.out.2.2.1 t (List.mem_of_getElem? ht)).below hB).below ((Below.refl _ _).alloc (Nat.le_refl _) _)
      have HB2 : Hid (Below w.heap.size w (wr.alloc (.cells #[.slice t.a t.ns.length t.c, .int .i64 t.tr, .int .i64 t.wt, .int .i64 t.le] 50))) := hB.alloc hB.size _
      have bx : BoxL (wr.alloc (.cells #[.slice t.a t.ns.length t.c, .int .i64 t.tr, .int .i64 t.wt, .int .i64 t.le] 50)) wr.heap.size [.slice t.a t.ns.length t.c, .int .i64 t.tr, .int .i64 t.wt, .int .i64 t.le] := boxL_new _ _ _ rfl
      have hkm : t.ns.length ≤ 9223372036854775807 := Nat.le_trans hI.1 hI.2.1
      have bad : Hid (taskB n t.p = false → tasksB (plainT ts) = false) := fun h => tasksB_bad (plainT_get ht) (by rw [HP.out]; exact h)
      have needsNo : Hid (needsB n 0 t.ns = false → taskB n t.p = false) := fun h => by show taskB n ⟨t.ns, _, _, _⟩ = false; unfold taskB; rw [h]; rfl
      have good : Hid (taskB n t.p = true → TasksTo n (plainT ts) (j + 1)) := fun h => tasksTo_succ HA.out (plainT_get ht) h
      have hA : Hid (needsB n 0 t.ns = true → 1 ≤ t.tr ∧ t.tr ≤ 8 ∧ 0 ≤ t.wt ∧ t.wt ≤ 1048576 ∧ 1 ≤ t.le ∧ t.le ≤ 1048576 → taskB n t.p = true) := fun h1 h2 => (taskB_iff _ _).2 ⟨h1, h2⟩
      have hNo : Hid (¬ (1 ≤ t.tr ∧ t.tr ≤ 8 ∧ 0 ≤ t.wt ∧ t.wt ≤ 1048576 ∧ 1 ≤ t.le ∧ t.le ≤ 1048576) → taskB n t.p = false) := fun h => by rw [Bool.eq_false_iff]; exact fun h' => h ((taskB_iff _ _).1 h').2
      clear c0 c1 c2 c3 HA hB0 ht
      obtain ⟨k, hk⟩ : ∃ k, k = t.ns.length := ⟨_, rfl⟩
      rw [← hk] at z0 HB2 bx hkm hI
      have HK : Hid (k = t.ns.length) := hk
      clear hk
      generalize t.ns = ns at *
      generalize t.tr = tr at *
      generalize t.wt = wt at *
      generalize t.le = le at *
      generalize t.a = ta at *
      generalize t.c = tc at *
      go_wp2
      obtain ⟨W2, hW2⟩ : ∃ W2, W2 = wr.alloc (.cells #[.slice ta k tc, .int .i64 tr, .int .i64 wt, .int .i64 le] 50) := ⟨_, rfl⟩
      rw [← hW2] at HB2 bx hI ⊢
      have hz : wr.heap.size < W2.heap.size := by rw [hW2]; simp
      have HI : Hid (IsI W2 ta tc ns) := hI
      have x0 := bx.1 0 _ rfl
      have x1 := bx.1 1 _ rfl
      have x2 := bx.1 2 _ rfl
      have x3 := bx.1 3 _ rfl
      clear hW2 hI bx hB
      go_loopw [35] (fun v wq => ∃ i : Nat, i ≤ k ∧ v = .int .i64 i ∧ Hid (needsB n 0 (ns.take i) = true) ∧ wq = W2) (fun v _ => k - (intOf v).toNat)
      case atStart => exact ⟨0, by omega, rfl, rfl, rfl⟩
      case round =>
       obtain ⟨i, hi, rfl, HL, rfl⟩ := hrel
       by_cases hil : i < k
       ·
        have hil' : (i : Int) < k := by omega
        obtain ⟨x, hx⟩ : ∃ x, ns[i]? = some x := ⟨_, List.getElem?_eq_getElem (by rw [← HK.out]; exact hil)⟩
        obtain ⟨b2, o2, rfl, -, hc⟩ := HI.out.2.2 i x hx
        clear good hA hNo
        by_cases h3 : x < 0
        ·
         have hneg : Hid (¬ (nextN 0 (ns.take i) ≤ x ∧ x < n)) := fun h => by have := needsB_from HL.out; omega
         have e : Hid (tasksB (plainT ts) = false) := bad.out (needsNo.out (needsB_bad hx hneg.out))
         clear bad needsNo HL hx hneg
         go_wp2
         go_ret
         exact ⟨by rw [e.out]; rfl, HB2.out⟩
        ·
         by_cases h4 : x < n
         ·
          have h4' : ¬ (n : Int) ≤ x := by omega
          by_cases h5 : i = 0
          ·
           subst h5
           have G : Hid (needsB n 0 (ns.take (0 + 1)) = true) := needsB_take hx HL.out (by show (0 : Int) ≤ x; omega) h4
           clear bad needsNo HL hx
           rw [Nat.add_zero] at hc
           go_wp2
           go_roundw
           case rel => exact ⟨0 + 1, by omega, by go_num, G, trivial⟩
           case measure => simp [intOf]; omega
          ·
           obtain ⟨i0, rfl⟩ : ∃ i0, i = i0 + 1 := ⟨i - 1, by omega⟩
           obtain ⟨y, hy⟩ : ∃ y, ns[i0]? = some y := ⟨_, List.getElem?_eq_getElem (by rw [← HK.out]; omega)⟩
           obtain ⟨b3, o3, e3, -, hd⟩ := HI.out.2.2 i0 y hy
           obtain ⟨rfl, rfl⟩ : b2 = b3 ∧ o2 = o3 := by cases e3; exact ⟨rfl, rfl⟩
           have hnx : Hid (nextN 0 (ns.take (i0 + 1)) = y + 1) := nextN_take hy
           have hi0 : (0 : Int) < (i0 + 1 : Nat) := by omega
           by_cases h6 : y < x
           ·
            have h6' : ¬ x ≤ y := by omega
            have G : Hid (needsB n 0 (ns.take (i0 + 1 + 1)) = true) := needsB_take hx HL.out (by rw [hnx.out]; omega) h4
            clear bad needsNo HL hx hnx hy
            go_wp2
            go_roundw
            case rel => exact ⟨i0 + 1 + 1, by omega, by go_num, G, trivial⟩
            case measure => simp [intOf]; omega
           ·
            have h6' : x ≤ y := by omega
            have e : Hid (tasksB (plainT ts) = false) := bad.out (needsNo.out (needsB_bad hx (by rw [hnx.out]; omega)))
            clear bad needsNo HL hx hnx hy
            go_wp2
            go_ret
            exact ⟨by rw [e.out]; rfl, HB2.out⟩
         ·
          have h4' : (n : Int) ≤ x := by omega
          have e : Hid (tasksB (plainT ts) = false) := bad.out (needsNo.out (needsB_bad hx (fun h => h4 h.2)))
          clear bad needsNo HL hx
          go_wp2
          go_ret
          exact ⟨by rw [e.out]; rfl, HB2.out⟩
       ·
        obtain rfl : i = k := by omega
        have hx : ¬ (i : Int) < i := by omega
        have hN : needsB n 0 ns = true := by
         have := HL.out
         rw [HK.out, List.take_length] at this
         exact this
        replace hA : Hid (1 ≤ tr ∧ tr ≤ 8 ∧ 0 ≤ wt ∧ wt ≤ 1048576 ∧ 1 ≤ le ∧ le ≤ 1048576 → taskB n t.p = true) := hA.out hN
        clear hN HL needsNo
        by_cases h1 : 1 ≤ tr
        ·
         have h1' : ¬ tr < 1 := by omega
         by_cases h2 : tr ≤ 8
         ·
          have h2' : ¬ 8 < tr := by omega
          by_cases h3 : 0 ≤ wt
          ·
           have h3' : ¬ wt < 0 := by omega
           by_cases h4 : wt ≤ 1048576
           ·
            have h4' : ¬ 1048576 < wt := by omega
            by_cases h5 : 1 ≤ le
            ·
             have h5' : ¬ le < 1 := by omega
             by_cases h6 : le ≤ 1048576
             ·
              have h6' : ¬ 1048576 < le := by omega
              have G : Hid (TasksTo n (plainT ts) (j + 1)) := good.out (hA.out ⟨h1, h2, h3, h4, h5, h6⟩)
              clear bad good hA hNo
              go_wp2
              go_roundw
              case rel => exact ⟨j + 1, by omega, by go_num, G, HB2.out⟩
              case measure => simp [intOf]; omega
             ·
              have h6' : 1048576 < le := by omega
              have e : Hid (tasksB (plainT ts) = false) := bad.out (hNo.out (fun h => by omega))
              clear bad good hA hNo
              go_wp2
              go_ret
              exact ⟨by rw [e.out]; rfl, HB2.out⟩
            ·
             have h5' : le < 1 := by omega
             have e : Hid (tasksB (plainT ts) = false) := bad.out (hNo.out (fun h => by omega))
             clear bad good hA hNo
             go_wp2
             go_ret
             exact ⟨by rw [e.out]; rfl, HB2.out⟩
           ·
            have h4' : 1048576 < wt := by omega
            have e : Hid (tasksB (plainT ts) = false) := bad.out (hNo.out (fun h => by omega))
            clear bad good hA hNo
            go_wp2
            go_ret
            exact ⟨by rw [e.out]; rfl, HB2.out⟩
          ·
           have h3' : wt < 0 := by omega
           have e : Hid (tasksB (plainT ts) = false) := bad.out (hNo.out (fun h => by omega))
           clear bad good hA hNo
           go_wp2
           go_ret
           exact ⟨by rw [e.out]; rfl, HB2.out⟩
         ·
          have h2' : 8 < tr := by omega
          have e : Hid (tasksB (plainT ts) = false) := bad.out (hNo.out (fun h => by omega))
          clear bad good hA hNo
          go_wp2
          go_ret
          exact ⟨by rw [e.out]; rfl, HB2.out⟩
        ·
         have h1' : tr < 1 := by omega
         have e : Hid (tasksB (plainT ts) = false) := bad.out (hNo.out (fun h => by omega))
         clear bad good hA hNo
         go_wp2
         go_ret
         exact ⟨by rw [e.out]; rfl, HB2.out⟩
     ·
      obtain rfl : j = n := by omega
      have e : Hid (tasksB (plainT ts) = true) := tasksTo_all (by rw [HP.out]; exact HA.out)
      have hx : ¬ (j : Int) < j := by omega
      clear HA
      go_wp2
      go_ret
      exact ⟨by rw [e.out]; rfl, hB⟩
   ·
    have h2' : (16 : Int) < s.size := by omega
    have E : Hid (nameB s = false) := by show _ = _; unfold nameB; rw [decide_eq_false (fun h => h2 h.2)]
    go_enter Try.func32, Try.ntmps32
    go_wp2
    go_ret
    exact ⟨by rw [E.out]; rfl, hB0⟩
  ·
   have h1' : (s.size : Int) < 1 := by omega
   have E : Hid (nameB s = false) := by show _ = _; unfold nameB; rw [decide_eq_false (fun h => h1 h.1)]
   go_enter Try.func32, Try.ntmps32
   go_wp2
   go_ret
   exact ⟨by rw [E.out]; rfl, hB0⟩
 ·
  have h0' : (n : Int) < 1 := by omega
  have E : Hid ((nameB s && decide (0 < n) && tasksB (plainT ts)) = false) := by show _ = _; rw [decide_eq_false h0, Bool.and_false]; rfl
  go_enter Try.func32, Try.ntmps32
  go_wp2
  go_ret
  exact ⟨by rw [E.out]; rfl, hB0⟩
theorem setAll_take {o : List Bool} {xs : List Int} {j : Nat} {x : Int} (h : xs[j]? = some x) : setAll o (xs.take (j + 1)) = (setAll o (xs.take j)).set x.toNat true := by
 rw [List.take_add_one, h, setAll_append]
 rfl
theorem RowT.there {w : World} {g n : Nat} {l : List Bool} (R : RowT w g n l) (hl : l.length = n) {x : Nat} (hx : x < n) : w.cell? ⟨g, x, none⟩ = some (.bool (onAt l x)) ∧ w.frozen? ⟨g, x, none⟩ = false := by
 have hv : l[x]? = some (onAt l x) := by unfold onAt; rw [List.getElem?_eq_getElem (by omega)]; rfl
 exact R.cell hv
set_option maxRecDepth 20000 in
set_option maxHeartbeats 4000000 in
theorem reach_any (s : ByteArray) (a : Option Addr) (c n : Nat) (ts : List TaskV) (from_ : Nat) (w : World) (hn : n = ts.length) (hT : IsT w a c ts) (hin : Inside (plainT ts)) (h20 : n ≤ 20) (hf : from_ < n) :
  Calls Try.prog 33 #[.agg #[.string s, .slice a n c], .int .i64 from_] w fun e w' => ∃ g, e = .returned (.slice (some ⟨g, 0, none⟩) n n) ∧ RowT w' g n (reachL (plainT ts) from_) ∧ Below w.heap.size w w' := by
 have hPn : (plainT ts).length = n := by rw [plainT_length]; exact hn.symm
 obtain ⟨Z, hmk, hZ⟩ : ∃ Z : Array Value, (∀ W : World, (Instr.makeSlice 56 (.int .i64 n) (.int .i64 n)).run Try.prog W = .ok (.slice (some ⟨W.heap.size, 0, none⟩) n n) (W.alloc (.cells Z 4))) ∧ Z = (List.replicate n (Value.bool false)).toArray :=
  ⟨madeCells #[.bool false] n, fun W => run_make_row' (P := Try.prog) 56 4 (.bool false) 1 Try.underlying56 Try.info4 rfl .i64 .i64 n (by omega) (by omega) W, made_one _ n⟩
 obtain ⟨W, hW⟩ : ∃ W, W = (w.alloc (.cells #[.string s, .slice a n c] 24)).alloc (.cells Z 4) := ⟨_, rfl⟩
 have zW : W.heap.size = w.heap.size + 1 + 1 := by rw [hW]; simp
 have hBa : Below w.heap.size w (w.alloc (.cells #[.string s, .slice a n c] 24)) := (Below.refl _ _).alloc (Nat.le_refl _) _
 have hB0 : Below w.heap.size w W := by rw [hW]; exact hBa.alloc (by simp) _
 have bX : BoxL W w.heap.size [.string s, .slice a n c] := by rw [hW]; exact (boxL_new _ _ _ rfl).alloc _
 have R0 : RowT W (w.heap.size + 1) n (List.replicate n false) := by rw [hW]; exact RowT.new _ n hZ (by simp) (by unfold maxLen; omega)
 have q1 := bX.1 1 _ rfl
 obtain ⟨t, ht⟩ : ∃ t, ts[from_]? = some t := ⟨_, List.getElem?_eq_getElem (by omega)⟩
 obtain ⟨b, o, rfl, -⟩ := hT.some (by omega)
 obtain ⟨y0, -, -, -, hI⟩ := (hT.below hB0).at ht
 have HT : Hid (IsT w (some ⟨b, o, none⟩) c ts) := hT
 have HN : Hid (n = ts.length) := hn
 have HP : Hid ((plainT ts).length = n) := hPn
 have HI : Hid (Inside (plainT ts)) := hin
 have hnm : n ≤ 9223372036854775807 := by omega
 have hf' : (from_ : Int) < n := by omega
 have HX : Hid (∀ x ∈ t.ns, 0 ≤ x ∧ x < n) := fun x hx => by
  have := hin from_ x (by rw [needsAt_get ht]; exact hx)
  omega
 have hkm : t.ns.length ≤ 9223372036854775807 := Nat.le_trans hI.1 hI.2.1
 have HA : Hid (needsAt (plainT ts) from_ = t.ns) := needsAt_get ht
 have HI0 : Hid (IsI w t.a t.c t.ns) := hT.2.2.1 t (List.mem_of_getElem? ht)
 obtain ⟨k, hk⟩ : ∃ k, k = t.ns.length := ⟨_, rfl⟩
 rw [← hk] at y0 hkm
 have HK : Hid (k = t.ns.length) := hk
 clear hn hT hin bX hBa hZ hPn ht hI hk
 generalize t.a = ta at *
 generalize t.c = tc at *
 generalize t.ns = ns at *
 rw [hW] at q1 y0
 go_enter Try.func33, Try.ntmps33
 go_wp2
 rw [← hW]
 rw [← hW] at q1 y0
 clear hW hmk
 go_loopw [24] (fun v wr => ∃ j : Nat, j ≤ k ∧ v = .int .i64 j ∧ RowT wr (w.heap.size + 1) n (setAll (List.replicate n false) (ns.take j)) ∧ wr.cell? ⟨w.heap.size, 1, none⟩ = some (.slice (some ⟨b, o, none⟩) n c) ∧ w.heap.size + 1 + 1 ≤ wr.heap.size ∧ Below w.heap.size w wr) (fun v _ => k - (intOf v).toNat)
 case atStart => exact ⟨0, by omega, rfl, R0, q1, by omega, hB0⟩
 case round =>
  clear R0 q1 y0
  obtain ⟨j, hj, rfl, R, q1, hz, hB⟩ := hrel
  by_cases hlt : j < k
  ·
   have hlt' : (j : Int) < k := by omega
   obtain ⟨x, hx⟩ : ∃ x, ns[j]? = some x := ⟨_, List.getElem?_eq_getElem (by rw [← HK.out]; exact hlt)⟩
   obtain ⟨b2, o2, rfl, -, hc⟩ := (HI0.out.below hB).2.2 j x hx
   obtain ⟨h0, h1⟩ := HX.out x (List.mem_of_getElem? hx)
   obtain ⟨y, rfl⟩ : ∃ y : Nat, x = y := ⟨x.toNat, by omega⟩
   obtain ⟨d0, d1⟩ := R.there (by rw [setAll_length]; simp) (x := y) (by omega)
   have R2 : Hid (RowT (wr.setCell ⟨w.heap.size + 1, y, none⟩ (.bool true)) (w.heap.size + 1) n (setAll (List.replicate n false) (ns.take (j + 1)))) := by
    show RowT _ _ _ _
    rw [setAll_take hx, Int.toNat_natCast]
    exact R.set y true
   have q1' := cell_set_other (k := w.heap.size + 1) (j := y) (u := .bool true) (.inl (by omega)) q1
   have hB2 : Below w.heap.size w (wr.setCell ⟨w.heap.size + 1, y, none⟩ (.bool true)) := hB.setCell (p := ⟨w.heap.size + 1, y, none⟩) (Nat.le_succ _) _
   generalize onAt (setAll (List.replicate n false) (ns.take j)) y = yv at d0
   clear R hx h0
   go_wp2
   go_roundw
   case rel => exact ⟨j + 1, by omega, by go_num, R2.out, q1', by simpa using hz, hB2⟩
   case measure => simp [intOf]; omega
  ·
   obtain rfl : j = k := by omega
   have hx : ¬ (j : Int) < j := by omega
   obtain ⟨O, hO⟩ : ∃ O, O = setAll (List.replicate n false) ns := ⟨_, rfl⟩
   rw [List.take_of_length_le (by rw [← HK.out]; exact Nat.le_refl _), ← hO] at R
   have HO : Hid (reachL (plainT ts) from_ = roundsR (plainT ts) n O) := by show _ = _; unfold reachL; rw [HP.out, HA.out, hO]
   have hOl : O.length = n := by rw [hO, setAll_length]; simp
   clear hO HX HA HI0
   go_wp2
   go_loopw [8] (fun v wr => ∃ r : Nat, r ≤ n ∧ v = .int .i64 r ∧ RowT wr (w.heap.size + 1) n (roundsR (plainT ts) r O) ∧ wr.cell? ⟨w.heap.size, 1, none⟩ = some (.slice (some ⟨b, o, none⟩) n c) ∧ w.heap.size + 1 + 1 ≤ wr.heap.size ∧ Below w.heap.size w wr) (fun v _ => n - (intOf v).toNat)
   case atStart => exact ⟨0, by omega, rfl, R, q1, hz, hB⟩
   case round =>
    clear R q1 hz hB hx hlt hj hkm HK
    obtain ⟨r, hr, rfl, R, q1, hz, hB⟩ := hrel
    by_cases hrn : r < n
    ·
     have hrn' : (r : Int) < n := by omega
     obtain ⟨P, hP⟩ : ∃ P, P = roundsR (plainT ts) r O := ⟨_, rfl⟩
     rw [← hP] at R
     have HR : Hid (roundsR (plainT ts) (r + 1) O = passN (plainT ts) n P) := by show _ = _; rw [hP]; show passR _ _ = _; unfold passR; rw [HP.out]
     have hPl : P.length = n := by rw [hP, roundsR_length, hOl]
     clear hP
     go_wp2
     go_loopw [42] (fun v wr => ∃ i : Nat, i ≤ n ∧ v = .int .i64 i ∧ RowT wr (w.heap.size + 1) n (passN (plainT ts) i P) ∧ wr.cell? ⟨w.heap.size, 1, none⟩ = some (.slice (some ⟨b, o, none⟩) n c) ∧ w.heap.size + 1 + 1 ≤ wr.heap.size ∧ Below w.heap.size w wr) (fun v _ => n - (intOf v).toNat)
     case atStart => exact ⟨0, by omega, rfl, R, q1, hz, hB⟩
     case round =>
      clear R q1 hz hB
      obtain ⟨i, hi, rfl, R, q1, hz, hB⟩ := hrel
      by_cases hin : i < n
      ·
       have hin' : (i : Int) < n := by omega
       obtain ⟨t, ht⟩ : ∃ t, ts[i]? = some t := ⟨_, List.getElem?_eq_getElem (by rw [← HN.out]; exact hin)⟩
       obtain ⟨z0, z1, z2, z3, hI⟩ := (HT.out.below hB).at ht
       have hAl : (passN (plainT ts) i P).length = n := by rw [passN_length, hPl]
       obtain ⟨d0, d1⟩ := R.there hAl (x := i) hin
       have HX : Hid (∀ x ∈ t.ns, 0 ≤ x ∧ x < n) := fun x hx => by
        have := HI.out i x (by rw [needsAt_get ht]; exact hx)
        have := HP.out
        omega
       have HA : Hid (needsAt (plainT ts) i = t.ns) := needsAt_get ht
       have HI0 : Hid (IsI w t.a t.c t.ns) := HT.out.2.2.1 t (List.mem_of_getElem? ht)
       have hkm : t.ns.length ≤ 9223372036854775807 := Nat.le_trans hI.1 hI.2.1
       obtain ⟨V, hV⟩ : ∃ V, V = wr.alloc (.cells #[.slice t.a t.ns.length t.c, .int .i64 t.tr, .int .i64 t.wt, .int .i64 t.le] 50) := ⟨_, rfl⟩
       have hbV : Below wr.heap.size wr V := by rw [hV]; exact (Below.refl _ _).alloc (Nat.le_refl _) _
       have bx : BoxL V wr.heap.size [.slice t.a t.ns.length t.c, .int .i64 t.tr, .int .i64 t.wt, .int .i64 t.le] := by rw [hV]; exact boxL_new _ _ _ rfl
       have RV := R.below hbV
       have qV := cell_below hbV q1
       have hzV : w.heap.size + 1 + 1 ≤ V.heap.size := Nat.le_trans hz hbV.size
       have hBV := Below.tr hB hbV
       have dV := cell_below hbV d0
       have x0 := bx.1 0 _ rfl
       clear hI R q1 hB d0 d1 bx hbV ht
       obtain ⟨k2, hk2⟩ : ∃ k2, k2 = t.ns.length := ⟨_, rfl⟩
       rw [← hk2] at z0 hkm hV x0
       have HK : Hid (k2 = t.ns.length) := hk2
       clear hk2
       generalize t.a = ta at *
       generalize t.c = tc at *
       generalize t.ns = ns2 at *
       generalize t.tr = t1 at *
       generalize t.wt = t2 at *
       generalize t.le = t3 at *
       cases hv : onAt (passN (plainT ts) i P) i with
       | false =>
        have HE : Hid (passN (plainT ts) (i + 1) P = passN (plainT ts) i P) := by show (if _ then _ else _) = _; rw [if_neg (by rw [hv]; decide)]
        rw [hv] at dV
        rw [hV] at dV
        clear hv
        go_wp2
        rw [← hV]
        go_roundw
        case rel => exact ⟨i + 1, by omega, by go_num, by rw [HE.out]; exact RV, qV, hzV, hBV⟩
        case measure => simp [intOf]; omega
       | true =>
        have HE : Hid (passN (plainT ts) (i + 1) P = setAll (passN (plainT ts) i P) ns2) := by show (if _ then _ else _) = _; rw [if_pos hv, HA.out]
        rw [hv] at dV
        rw [hV] at dV
        clear hv
        go_wp2
        rw [← hV]
        rw [← hV] at dV
        clear hV
        go_loopw [54] (fun v wr => ∃ j : Nat, j ≤ k2 ∧ v = .int .i64 j ∧ RowT wr (w.heap.size + 1) n (setAll (passN (plainT ts) i P) (ns2.take j)) ∧ wr.cell? ⟨w.heap.size, 1, none⟩ = some (.slice (some ⟨b, o, none⟩) n c) ∧ w.heap.size + 1 + 1 ≤ wr.heap.size ∧ Below w.heap.size w wr) (fun v _ => k2 - (intOf v).toNat)
        case atStart => exact ⟨0, by omega, rfl, RV, qV, hzV, hBV⟩
        case round =>
         clear RV qV hzV hBV dV x0
         obtain ⟨j, hj, rfl, R, q1, hz2, hB⟩ := hrel
         by_cases hlt : j < k2
         ·
          have hlt' : (j : Int) < k2 := by omega
          obtain ⟨x, hx⟩ : ∃ x, ns2[j]? = some x := ⟨_, List.getElem?_eq_getElem (by rw [← HK.out]; exact hlt)⟩
          obtain ⟨b2, o2, rfl, -, hc⟩ := (HI0.out.below hB).2.2 j x hx
          obtain ⟨h0, h1⟩ := HX.out x (List.mem_of_getElem? hx)
          obtain ⟨y, rfl⟩ : ∃ y : Nat, x = y := ⟨x.toNat, by omega⟩
          obtain ⟨d0, d1⟩ := R.there (by rw [setAll_length]; exact hAl) (x := y) (by omega)
          have R2 : Hid (RowT (wr.setCell ⟨w.heap.size + 1, y, none⟩ (.bool true)) (w.heap.size + 1) n (setAll (passN (plainT ts) i P) (ns2.take (j + 1)))) := by
           show RowT _ _ _ _
           rw [setAll_take hx, Int.toNat_natCast]
           exact R.set y true
          have q1' := cell_set_other (k := w.heap.size + 1) (j := y) (u := .bool true) (.inl (by omega)) q1
          have hB2 : Below w.heap.size w (wr.setCell ⟨w.heap.size + 1, y, none⟩ (.bool true)) := hB.setCell (p := ⟨w.heap.size + 1, y, none⟩) (Nat.le_succ _) _
          generalize onAt (setAll (passN (plainT ts) i P) (ns2.take j)) y = yv at d0
          clear R hx h0
          go_wp2
          go_roundw
          case rel => exact ⟨j + 1, by omega, by go_num, R2.out, q1', by simpa using hz2, hB2⟩
          case measure => simp [intOf]; omega
         ·
          obtain rfl : j = k2 := by omega
          have hx : ¬ (j : Int) < j := by omega
          rw [List.take_of_length_le (by rw [← HK.out]; exact Nat.le_refl _)] at R
          have R2 : Hid (RowT wr (w.heap.size + 1) n (passN (plainT ts) (i + 1) P)) := by show RowT _ _ _ _; rw [HE.out]; exact R
          clear R HE
          go_wp2
          go_roundw
          case rel => exact ⟨i + 1, by omega, by go_num, R2.out, q1, hz2, hB⟩
          case measure => simp [intOf]; omega
      ·
       obtain rfl : i = n := by omega
       have hx : ¬ (i : Int) < i := by omega
       have R2 : Hid (RowT wr (w.heap.size + 1) i (roundsR (plainT ts) (r + 1) O)) := by show RowT _ _ _ _; rw [HR.out]; exact R
       clear R HR
       go_wp2
       go_roundw
       case rel => exact ⟨r + 1, by omega, by go_num, R2.out, q1, hz, hB⟩
       case measure => simp [intOf]; omega
    ·
     obtain rfl : r = n := by omega
     have hx : ¬ (r : Int) < r := by omega
     have R2 : Hid (RowT wr (w.heap.size + 1) r (reachL (plainT ts) from_)) := by show RowT _ _ _ _; rw [HO.out]; exact R
     clear R HO
     go_wp2
     go_ret
     exact ⟨_, rfl, R2.out, hB⟩
theorem rightG_round {s : ByteArray} {ts : List TaskP} (h10 : ¬ 10 < ts.length) (h : (nameB s && decide (0 < ts.length) && tasksB ts) = true) {i : Nat} (hi : i < ts.length) (hr : onAt (reachL ts i) i = true) : rightG s ts = 160 := by
 rw [Bool.and_eq_true] at h
 have hin := tasksB_inside h.2
 refine rightG_cycle h10 (by rw [Bool.and_eq_true]; exact h) ?_
 have hat := ordD_at ts ts.length
 have hle : (orderL ts).length ≤ ts.length := by
  have := howMany_le (ordD ts ts.length).1
  rw [hat.many, hat.len] at this
  exact this
 refine Nat.lt_of_le_of_ne hle fun e => ?_
 have := (cyclic_iff hin).1 ((acyclic_iff hin).2 e) i hi
 rw [hr] at this
 cases this
theorem rightG_none {s : ByteArray} {ts : List TaskP} (h10 : ¬ 10 < ts.length) (h : (nameB s && decide (0 < ts.length) && tasksB ts) = true) (hr : ∀ i, i < ts.length → onAt (reachL ts i) i = false) : rightG s ts = 0 := by
 rw [Bool.and_eq_true] at h
 have hin := tasksB_inside h.2
 have := (acyclic_iff hin).1 ((cyclic_iff hin).2 hr)
 exact rightG_zero h10 (by rw [Bool.and_eq_true]; exact h) (by omega)
set_option maxRecDepth 20000 in
set_option maxHeartbeats 2000000 in
theorem refRight16_any (s : ByteArray) (a : Option Addr) (c n : Nat) (ts : List TaskV) (w : World) (hs : s.size ≤ maxLen) (hn : n = ts.length) (hT : IsT w a c ts) :
  Calls Try.prog 11 #[.agg #[.string s, .slice a n c]] w fun e w' => e = .returned (.int .i64 (rightG s (plainT ts))) ∧ Below w.heap.size w w' := by
 have hP : (plainT ts).length = n := by rw [plainT_length]; exact hn.symm
 have hnm : n ≤ 9223372036854775807 := by rw [hn]; exact Nat.le_trans hT.1 hT.2.1
 obtain ⟨W, hW⟩ : ∃ W, W = w.alloc (.cells #[.string s, .slice a n c] 24) := ⟨_, rfl⟩
 have bX : BoxL W w.heap.size [.string s, .slice a n c] := by rw [hW]; exact boxL_new _ _ _ rfl
 have hB0 : Below w.heap.size w W := by rw [hW]; exact (Below.refl _ _).alloc (Nat.le_refl _) _
 have q0 := bX.1 0 _ rfl
 have q1 := bX.1 1 _ rfl
 by_cases h10 : 10 < n
 ·
  have h10' : (10 : Int) < n := by omega
  have E : Hid (rightG s (plainT ts) = 2) := rightG_long (by rw [hP]; exact h10)
  clear hn hT hP
  rw [hW] at q0 q1
  go_enter Try.func11, Try.ntmps11
  go_wp2
  rw [← hW]
  go_ret
  exact ⟨by rw [E.out]; rfl, hB0⟩
 ·
  have h10' : ¬ (10 : Int) < n := by omega
  have cS := refShaped_any s a c n ts W hn (hT.below hB0) (by omega) hs
  cases ha : (nameB s && decide (0 < n) && tasksB (plainT ts)) with
  | false =>
   rw [ha] at cS
   have E : Hid (rightG s (plainT ts) = 1) := rightG_arg (by rw [hP]; exact h10) (by rw [hP]; exact ha)
   clear hn hT hP ha
   rw [hW] at q0 q1
   go_enter Try.func11, Try.ntmps11
   go_wp2_with (go_at_call 32; rw [← hW]; refine cS.mono ?_; rintro e w2 ⟨rfl, hb⟩; have hB2 := Below.tr hB0 hb)
   go_ret
   exact ⟨by rw [E.out]; rfl, hB2⟩
  | true =>
   rw [ha] at cS
   have ha2 := ha
   rw [Bool.and_eq_true] at ha2
   have hin := tasksB_inside ha2.2
   have cR : ∀ V i, Below w.heap.size w V → i < n → Calls Try.prog 33 #[.agg #[.string s, .slice a n c], .int .i64 i] V fun e w' => ∃ g, e = .returned (.slice (some ⟨g, 0, none⟩) n n) ∧ RowT w' g n (reachL (plainT ts) i) ∧ Below V.heap.size V w' := fun V i hb hi => reach_any s a c n ts i V hn (hT.below hb) hin (by omega) hi
   replace cR : Hid _ := cR
   have EC : Hid (∀ i, i < n → onAt (reachL (plainT ts) i) i = true → rightG s (plainT ts) = 160) := fun i hi h => rightG_round (by omega) (by rw [hP]; exact ha) (by omega) h
   have EZ : Hid ((∀ i, i < n → onAt (reachL (plainT ts) i) i = false) → rightG s (plainT ts) = 0) := fun h => rightG_none (by omega) (by rw [hP]; exact ha) (fun i hi => h i (by omega))
   have HL : Hid (∀ i, (reachL (plainT ts) i).length = n) := fun i => by unfold reachL; rw [roundsR_length, setAll_length, List.length_replicate, hP]
   clear hn hT hP ha ha2 hin
   rw [hW] at q0 q1
   go_enter Try.func11, Try.ntmps11
   go_wp2_with (go_at_call 32; rw [← hW]; refine cS.mono ?_; rintro e w2 ⟨rfl, hb⟩; have hB2 := Below.tr hB0 hb; rw [← hW] at q0 q1; have z0 := cell_below hb q0; have z1 := cell_below hb q1; have hz : w.heap.size < w2.heap.size := cell_lt z0)
   go_loopw [15] (fun v wr => ∃ j : Nat, j ≤ n ∧ v = .int .i64 j ∧ Hid (∀ i, i < j → onAt (reachL (plainT ts) i) i = false) ∧ Below w2.heap.size w2 wr) (fun v _ => n - (intOf v).toNat)
   case atStart => exact ⟨0, by omega, rfl, fun i h => by omega, Below.refl _ _⟩
   case round =>
    obtain ⟨j, hj, rfl, HA, hB⟩ := hrel
    have hBw := Below.tr hB2 hB
    have y0 := cell_below hB z0
    have y1 := cell_below hB z1
    clear hW bX q0 q1
    by_cases hlt : j < n
    ·
     have hlt' : (j : Int) < n := by omega
     have cJ := cR.out wr j hBw hlt
     have cJ2 : Calls Try.prog 33 #[.agg #[.string s, .slice a n c], .int .i64 j] wr fun e w' => ∃ g, e = .returned (.slice (some ⟨g, 0, none⟩) n n) ∧ w'.cell? ⟨g, j, none⟩ = some (.bool (onAt (reachL (plainT ts) j) j)) ∧ Below wr.heap.size wr w' := cJ.mono (by
      rintro e w' ⟨g, rfl, R, hb⟩
      exact ⟨g, rfl, (R.there (HL.out j) hlt).1, hb⟩)
     clear cJ
     cases hv : onAt (reachL (plainT ts) j) j with
     | true =>
      rw [hv] at cJ2
      have E : Hid (rightG s (plainT ts) = 160) := EC.out j hlt hv
      clear hv EC EZ HA
      go_wp2_with (go_at_call 33; refine cJ2.mono ?_; rintro e w3 ⟨g, rfl, hg, hb3⟩)
      go_ret
      exact ⟨by rw [E.out]; rfl, Below.tr hBw hb3⟩
     | false =>
      rw [hv] at cJ2
      have HA2 : Hid (∀ i, i < j + 1 → onAt (reachL (plainT ts) i) i = false) := fun i hi => by
       by_cases h : i = j
       ·
        subst h; exact hv
       ·
        exact HA.out i (by omega)
      clear hv EC HA
      go_wp2_with (go_at_call 33; refine cJ2.mono ?_; rintro e w3 ⟨g, rfl, hg, hb3⟩)
      go_roundw
      case rel => exact ⟨j + 1, by omega, by go_num, HA2, Below.tr hB hb3⟩
      case measure => simp [intOf]; omega
    ·
     obtain rfl : j = n := by omega
     have E : Hid (rightG s (plainT ts) = 0) := EZ.out HA.out
     have hx : ¬ (j : Int) < j := by omega
     clear EC EZ HA
     go_wp2
     go_ret
     exact ⟨by rw [E.out]; rfl, hBw⟩
set_option maxRecDepth 20000 in
set_option maxHeartbeats 4000000 in
theorem refRight19_any (ky nm : ByteArray) (ta : Option Addr) (tn tc : Nat) (is : Int) (sa : Option Addr) (n sc : Nat) (tv : List TaskV) (ss : List StP) (w : World) (hky : ky.size ≤ maxLen) (hnm : nm.size ≤ maxLen) (hT : IsT w ta tc tv) (htn : tn = tv.length) (hZ : IsZ w sa sc ss) (hn : n = ss.length) :
  Calls Try.prog 15 #[.agg #[.string ky, .string nm, .slice ta tn tc, .int .i64 is, .slice sa n sc]] w fun e w' => e = .returned (.bool (runB ky nm (plainT tv) ss is)) ∧ Below w.heap.size w w' := by
 have hB0 : Below w.heap.size w (w.alloc (.cells #[.string ky, .string nm, .slice ta tn tc, .int .i64 is, .slice sa n sc] 27)) := (Below.refl _ _).alloc (Nat.le_refl _) _
 have X : RunIn (w.alloc (.cells #[.string ky, .string nm, .slice ta tn tc, .int .i64 is, .slice sa n sc] 27)) w.heap.size ky nm ta tn tc is sa n sc tv ss := ⟨boxL_new w [.string ky, .string nm, .slice ta tn tc, .int .i64 is, .slice sa n sc] _ rfl, hT.below hB0, hZ.below hB0, htn, hn⟩
 have q0 := X.box.1 0 _ rfl; have q1 := X.box.1 1 _ rfl; have q2 := X.box.1 2 _ rfl; have q3 := X.box.1 3 _ rfl; have q4 := X.box.1 4 _ rfl
 have hki : ky.size ≤ 9223372036854775807 := hky
 have cD := fun W (h : Below w.heap.size w W) => refRight16_any nm ta tc tn tv W hnm htn (hT.below h)
 have cF := fun W (h : Below w.heap.size w W) => refFits_any ky nm ta tn tc is sa n sc ss W (hZ.below h) hn
 by_cases hk1 : ky.size < 1
 ·
  have a1 : (ky.size : Int) < 1 := by omega
  have HL : Hid (runB ky nm (plainT tv) ss is = false) := notOk_key (by omega)
  clear hT hZ htn hn
  go_enter Try.func15, Try.ntmps15
  go_wp2_with (first
   | (go_at_call 11; refine (cD _ hB0).mono ?_; rintro e w2 ⟨rfl, hb⟩; replace X := X.below hb; have hB := Below.tr hB0 hb; clear hb; clear q0 q1 q2 q3 q4; have q0 := X.box.1 0 _ rfl; have q1 := X.box.1 1 _ rfl; have q2 := X.box.1 2 _ rfl; have q3 := X.box.1 3 _ rfl; have q4 := X.box.1 4 _ rfl)
   | (go_at_call 39; refine (cF _ hB).mono ?_; rintro e w3 ⟨rfl, hb⟩; replace X := X.below hb; replace hB := Below.tr hB hb; clear hb; clear q0 q1 q2 q3 q4; have q0 := X.box.1 0 _ rfl; have q1 := X.box.1 1 _ rfl; have q2 := X.box.1 2 _ rfl; have q3 := X.box.1 3 _ rfl; have q4 := X.box.1 4 _ rfl))
  go_ret
  exact ⟨ret_bool HL.out.symm, hB0⟩
 have a1 : ¬ (ky.size : Int) < 1 := by omega
 by_cases hk2 : 16 < ky.size
 ·
  have a2 : (16 : Int) < ky.size := by omega
  have HL : Hid (runB ky nm (plainT tv) ss is = false) := notOk_key (by omega)
  clear hT hZ htn hn
  go_enter Try.func15, Try.ntmps15
  go_wp2_with (first
   | (go_at_call 11; refine (cD _ hB0).mono ?_; rintro e w2 ⟨rfl, hb⟩; replace X := X.below hb; have hB := Below.tr hB0 hb; clear hb; clear q0 q1 q2 q3 q4; have q0 := X.box.1 0 _ rfl; have q1 := X.box.1 1 _ rfl; have q2 := X.box.1 2 _ rfl; have q3 := X.box.1 3 _ rfl; have q4 := X.box.1 4 _ rfl)
   | (go_at_call 39; refine (cF _ hB).mono ?_; rintro e w3 ⟨rfl, hb⟩; replace X := X.below hb; replace hB := Below.tr hB hb; clear hb; clear q0 q1 q2 q3 q4; have q0 := X.box.1 0 _ rfl; have q1 := X.box.1 1 _ rfl; have q2 := X.box.1 2 _ rfl; have q3 := X.box.1 3 _ rfl; have q4 := X.box.1 4 _ rfl))
  go_ret
  exact ⟨ret_bool HL.out.symm, hB0⟩
 have a2 : ¬ (16 : Int) < ky.size := by omega
 by_cases hd : rightG nm (plainT tv) = 0
 ·
  rw [hd] at cD
  obtain ⟨h10, hp0, hin⟩ := inside_of htn hd
  by_cases hl : ss.length = (plainT tv).length
  ·
   have hnt : n = tn := by rw [hn, hl, plainT_length, htn]
   have hnq : ((n : Int) != (tn : Int)) = false := by simp; omega
   cases hf : fitsS ss is with
   | false =>
    rw [hf] at cF
    have HL : Hid (runB ky nm (plainT tv) ss is = false) := runB_no fun hh => by have := hh.st.fits; rw [hf] at this; cases this
    clear hT hZ htn hn hl hnt hin hd hf
    go_enter Try.func15, Try.ntmps15
    go_wp2_with (first
     | (go_at_call 11; refine (cD _ hB0).mono ?_; rintro e w2 ⟨rfl, hb⟩; replace X := X.below hb; have hB := Below.tr hB0 hb; clear hb; clear q0 q1 q2 q3 q4; have q0 := X.box.1 0 _ rfl; have q1 := X.box.1 1 _ rfl; have q2 := X.box.1 2 _ rfl; have q3 := X.box.1 3 _ rfl; have q4 := X.box.1 4 _ rfl)
     | (go_at_call 39; refine (cF _ hB).mono ?_; rintro e w3 ⟨rfl, hb⟩; replace X := X.below hb; replace hB := Below.tr hB hb; clear hb; clear q0 q1 q2 q3 q4; have q0 := X.box.1 0 _ rfl; have q1 := X.box.1 1 _ rfl; have q2 := X.box.1 2 _ rfl; have q3 := X.box.1 3 _ rfl; have q4 := X.box.1 4 _ rfl))
    go_ret
    exact ⟨ret_bool HL.out.symm, hB⟩
   | true =>
    rw [hf] at cF
    have HNT : Hid (n = tn) := hnt
    have HL : Hid (ss.length = (plainT tv).length) := hl
    have HN : Hid (n = ss.length) := hn
    have HTN : Hid (tn = tv.length) := htn
    have HF : Hid (fitsS ss is = true) := hf
    have HK : Hid ((1 ≤ ky.size ∧ ky.size ≤ 16) ∧ rightG nm (plainT tv) = 0) := ⟨⟨by omega, by omega⟩, hd⟩
    have cI := fun (i : Nat) t W (h : Below w.heap.size w W) ht => refIsReady_any ky nm ta tn tc is sa n sc ss tv i t W (hZ.below h) hn (hT.below h) htn ht (fun x hx => by rw [hnt]; exact hin i t ht x hx)
    clear hT hZ htn hn hl hnt hin hd hf hk1 hk2
    go_enter Try.func15, Try.ntmps15
    go_wp2_with (first
     | (go_at_call 11; refine (cD _ hB0).mono ?_; rintro e w2 ⟨rfl, hb⟩; replace X := X.below hb; have hB := Below.tr hB0 hb; clear hb; clear q0 q1 q2 q3 q4; have q0 := X.box.1 0 _ rfl; have q1 := X.box.1 1 _ rfl; have q2 := X.box.1 2 _ rfl; have q3 := X.box.1 3 _ rfl; have q4 := X.box.1 4 _ rfl)
     | (go_at_call 39; refine (cF _ hB).mono ?_; rintro e w3 ⟨rfl, hb⟩; replace X := X.below hb; replace hB := Below.tr hB hb; clear hb; clear q0 q1 q2 q3 q4; have q0 := X.box.1 0 _ rfl; have q1 := X.box.1 1 _ rfl; have q2 := X.box.1 2 _ rfl; have q3 := X.box.1 3 _ rfl; have q4 := X.box.1 4 _ rfl))
    clear q0 q1 q2 q3 q4
    go_loopw [40] (fun v wr => ∃ j : Nat, j ≤ n ∧ v = .int .i64 j ∧ RunIn wr w.heap.size ky nm ta tn tc is sa n sc tv ss ∧ Hid (∀ (i : Nat) s t, i < j → ss[i]? = some s → (plainT tv)[i]? = some t → StateAt (plainT tv) ss i s t) ∧ Below w.heap.size w wr) (fun v _ => n - (intOf v).toNat)
    case atStart => exact ⟨0, Nat.zero_le _, rfl, X, fun i s t h => absurd h (Nat.not_lt_zero _), hB⟩
    case round =>
     clear X hB
     obtain ⟨j, hj, rfl, X, HE, hB⟩ := hrel
     by_cases hlt : j < n
     ·
      have hlt' : (j : Int) < n := by omega
      have hltt : (j : Int) < tn := by have := HNT.out; omega
      obtain ⟨hb1, hb2, hb3, hb4⟩ := X.bounds
      obtain ⟨s, hs⟩ : ∃ s, ss[j]? = some s := ⟨_, List.getElem?_eq_getElem (by rw [← HN.out]; exact hlt)⟩
      obtain ⟨t, ht⟩ : ∃ t, tv[j]? = some t := ⟨_, List.getElem?_eq_getElem (by have := HNT.out; have := HTN.out; omega)⟩
      obtain ⟨b, o, rfl, -⟩ := X.hZ.some (by have := HN.out; omega)
      obtain ⟨tb, to, rfl, -⟩ := X.hT.some (by have := HNT.out; have := HTN.out; omega)
      obtain ⟨z0, z1, z2, z3, z4⟩ := X.hZ.at hs
      obtain ⟨y0, y1, y2, y3, -⟩ := X.hT.at ht
      have hr16 := X.hZ.text hs
      have hpl := plainT_get ht
      have HS : Hid (ss[j]? = some s) := hs
      have HPL : Hid ((plainT tv)[j]? = some t.p) := hpl
      have cQ := fun W h => cI j t W h ht
      have hR' : ∀ W, Calls Try.prog 40 #[.agg #[.slice t.a t.ns.length t.c, .int .i64 t.tr, .int .i64 t.wt, .int .i64 t.le], .agg #[.int .i64 s.i, .int .i64 s.t, .int .i64 s.d, .int .i64 s.k, .string s.r]] W fun e w' => e = .returned (.bool (rightT t.tr s)) ∧ Below W.heap.size W w' := fun W => refRightT_any t.a t.ns.length t.c t.tr t.wt t.le s.i s.t s.d s.k s.r W hr16
      obtain ⟨R, hR⟩ : ∃ R, R = rightT t.tr s := ⟨_, rfl⟩
      obtain ⟨Q, hQ⟩ : ∃ Q, Q = readyI (plainT tv) ss j := ⟨_, rfl⟩
      rw [← hR] at hR'
      rw [← hQ] at cQ
      have HR : Hid (R = rightT t.tr s) := hR
      have HQ : Hid (Q = readyI (plainT tv) ss j) := hQ
      have HNX : Hid (R = true → (∀ k u, k < j → ss[k]? = some u → 0 < s.k → u.k ≠ s.k) → (s.i = 0 → Q = false) → (s.i ≠ 0 → s.i ≠ 5 → Q = true) → ∀ (i : Nat) s t, i < j + 1 → ss[i]? = some s → (plainT tv)[i]? = some t → StateAt (plainT tv) ss i s t) := by
       intro h1 h2 h3 h4 i s' t' hi hs' ht'
       by_cases hij : i = j
       ·
        subst hij
        rw [hs] at hs'; cases hs'
        rw [hpl] at ht'; cases ht'
        exact ⟨by rw [← h1, hR]; rfl, h2, fun h => by rw [← hQ]; exact h3 h, fun h h' => by rw [← hQ]; exact h4 h h'⟩
       ·
        exact HE.out i s' t' (by omega) hs' ht'
      have HBAD : Hid (∀ h : ¬ (StateAt (plainT tv) ss j s t.p), runB ky nm (plainT tv) ss is = false) := fun h => runB_no fun hh => h (hh.st.each j s t.p hs hpl)
      obtain ⟨ta, hta⟩ : ∃ ta, ta = t.a := ⟨_, rfl⟩
      obtain ⟨tl, htl⟩ : ∃ tl, tl = t.ns.length := ⟨_, rfl⟩
      obtain ⟨tcc, htcc⟩ : ∃ tcc, tcc = t.c := ⟨_, rfl⟩
      obtain ⟨ttr, httr⟩ : ∃ ttr, ttr = t.tr := ⟨_, rfl⟩
      obtain ⟨twt, htwt⟩ : ∃ twt, twt = t.wt := ⟨_, rfl⟩
      obtain ⟨tle, htle⟩ : ∃ tle, tle = t.le := ⟨_, rfl⟩
      rw [← hta, ← htl, ← htcc, ← httr, ← htwt, ← htle] at hR'
      rw [← hta, ← htl, ← htcc] at y0
      rw [← httr] at y1
      rw [← htwt] at y2
      rw [← htle] at y3
      obtain ⟨si, st, sd, sk, sr⟩ := s
      dsimp only at *
      obtain ⟨Y, hY⟩ : ∃ Y, Y = wr.alloc (.cells #[.int .i64 si, .int .i64 st, .int .i64 sd, .int .i64 sk, .string sr] 52) := ⟨_, rfl⟩
      have bS : BoxL Y.drew wr.heap.size [.int .i64 si, .int .i64 st, .int .i64 sd, .int .i64 sk, .string sr] := by rw [hY]; exact (boxL_new wr [.int .i64 si, .int .i64 st, .int .i64 sd, .int .i64 sk, .string sr] _ rfl).below (Below.refl _ _).drew
      have XY : RunIn Y.drew w.heap.size ky nm (some ⟨tb, to, none⟩) tn tc is (some ⟨b, o, none⟩) n sc tv ss := by rw [hY]; exact (X.alloc _).drew
      have hBY : Below w.heap.size w Y.drew := by rw [hY]; exact (hB.alloc hB.size _).drew
      have k0 : Y.drew.cell? ⟨tb, to + j * 4, none⟩ = some (.slice ta tl tcc) := by rw [hY]; exact cell_alloc y0 _
      have k1 : Y.drew.cell? ⟨tb, to + j * 4 + 1, none⟩ = some (.int .i64 ttr) := by rw [hY]; exact cell_alloc y1 _
      have k2 : Y.drew.cell? ⟨tb, to + j * 4 + 2, none⟩ = some (.int .i64 twt) := by rw [hY]; exact cell_alloc y2 _
      have k3 : Y.drew.cell? ⟨tb, to + j * 4 + 3, none⟩ = some (.int .i64 tle) := by rw [hY]; exact cell_alloc y3 _
      clear cI hR hQ hta htl htcc httr htwt htle hs ht hpl hr16 X hB HE hlt hj y0 y1 y2 y3
      go_wp2
      rw [← hY]
      clear hY z0 z1 z2 z3 z4
      go_region_held3 (fun V => V.cell? ⟨w.heap.size, 2, none⟩ = some (.slice (some ⟨tb, to, none⟩) tn tc) ∧ (V.cell? ⟨tb, to + j * 4, none⟩ = some (.slice ta tl tcc) ∧ V.cell? ⟨tb, to + j * 4 + 1, none⟩ = some (.int .i64 ttr) ∧ V.cell? ⟨tb, to + j * 4 + 2, none⟩ = some (.int .i64 twt) ∧ V.cell? ⟨tb, to + j * 4 + 3, none⟩ = some (.int .i64 tle)) ∧ (V.cell? ⟨wr.heap.size, 0, none⟩ = some (.int .i64 si) ∧ V.cell? ⟨wr.heap.size, 1, none⟩ = some (.int .i64 st) ∧ V.cell? ⟨wr.heap.size, 2, none⟩ = some (.int .i64 sd) ∧ V.cell? ⟨wr.heap.size, 3, none⟩ = some (.int .i64 sk) ∧ V.cell? ⟨wr.heap.size, 4, none⟩ = some (.string sr))) (exact ⟨XY.box.1 2 _ rfl, ⟨k0, k1, k2, k3⟩, bS.1 0 _ rfl, bS.1 1 _ rfl, bS.1 2 _ rfl, bS.1 3 _ rfl, bS.1 4 _ rfl⟩) (first
       | (go_at_call 40; refine (hR' _).mono ?_; rintro e v1 ⟨rfl, hb⟩; replace XY := XY.below hb; replace bS := bS.below hb; replace k0 := cell_below hb k0; replace k1 := cell_below hb k1; replace k2 := cell_below hb k2; replace k3 := cell_below hb k3; replace hBY := Below.tr hBY hb; clear hb))
      clear k0 k1 k2 k3
      cases R with
      | false =>
       have hbad : Hid (runB ky nm (plainT tv) ss is = false) := HBAD.out fun h => by have := h.right; rw [show t.p.tries = t.tr from rfl, ← HR.out] at this; cases this
       go_wp2
       go_ret
       exact ⟨ret_bool hbad.out.symm, hBY⟩
      | true =>
       have p3 := bS.1 3 _ rfl
       obtain ⟨bx, hbx⟩ : ∃ bx, bx = wr.heap.size := ⟨_, rfl⟩
       rw [← hbx] at bS p3
       go_wp2
       rw [← hbx]
       clear hbx
       go_loopw [5] (fun v wr => ∃ k : Nat, k ≤ j ∧ v = .int .i64 k ∧ RunIn wr w.heap.size ky nm (some ⟨tb, to, none⟩) tn tc is (some ⟨b, o, none⟩) n sc tv ss ∧ BoxL wr bx [.int .i64 si, .int .i64 st, .int .i64 sd, .int .i64 sk, .string sr] ∧ Hid (∀ i u, i < k → ss[i]? = some u → 0 < sk → u.k ≠ sk) ∧ Below w.heap.size w wr) (fun v _ => j - (intOf v).toNat)
       case atStart => exact ⟨0, Nat.zero_le _, rfl, XY, bS, fun i u h => absurd h (Nat.not_lt_zero _), hBY⟩
       case round =>
        clear XY bS hBY p3
        obtain ⟨k, hk, rfl, X2, bS2, HT2, hB2⟩ := hrel
        by_cases hkj : k < j
        ·
         have hkj' : (k : Int) < j := by omega
         have hkn' : (k : Int) < n := by omega
         obtain ⟨u, hu⟩ : ∃ u, ss[k]? = some u := ⟨_, List.getElem?_eq_getElem (by have := HN.out; omega)⟩
         have u3 := (X2.drew.hZ.at hu).2.2.2.1
         have p3 : wr.drew.cell? ⟨bx, 3, none⟩ = some (.int .i64 sk) := bS2.1 3 _ rfl
         have p4 : wr.drew.cell? ⟨w.heap.size, 4, none⟩ = some (.slice (some ⟨b, o, none⟩) n sc) := X2.box.1 4 _ rfl
         obtain ⟨uk, huk⟩ : ∃ uk, uk = u.k := ⟨_, rfl⟩
         rw [← huk] at u3
         by_cases h0 : 0 < sk
         ·
          have h01 : (0 < sk) = True := eq_true h0
          by_cases he : uk = sk
          ·
           have he1 : (uk == sk) = true := by simpa using he
           have hbad : Hid (runB ky nm (plainT tv) ss is = false) := HBAD.out fun h => h.token k u hkj hu h0 (by rw [← huk]; exact he)
           clear hu huk h0 he
           go_wp2
           go_region
           go_wp2
           go_ret
           exact ⟨ret_bool hbad.out.symm, hB2.drew⟩
          ·
           have he1 : (uk == sk) = false := by simpa using he
           have hnx : Hid (∀ i u, i < k + 1 → ss[i]? = some u → 0 < sk → u.k ≠ sk) := by
            intro i u' hi hu' h0'
            by_cases hik : i = k
            ·
             subst hik; rw [hu] at hu'; cases hu'; rw [← huk]; exact he
            ·
             exact HT2.out i u' (by omega) hu' h0'
           clear hu huk h0 he
           go_wp2
           go_region
           go_wp2
           go_roundw
           case rel => exact ⟨k + 1, by omega, by go_num, X2.drew, bS2.below (Below.refl _ _).drew, hnx, hB2.drew⟩
           case measure => simp [intOf]; omega
         ·
          have h01 : (0 < sk) = False := eq_false h0
          have hnx : Hid (∀ i u, i < k + 1 → ss[i]? = some u → 0 < sk → u.k ≠ sk) := fun i u' hi hu' h0' => absurd h0' h0
          clear hu huk h0
          go_wp2
          go_region
          go_wp2
          go_roundw
          case rel => exact ⟨k + 1, by omega, by go_num, X2.drew, bS2.below (Below.refl _ _).drew, hnx, hB2.drew⟩
          case measure => simp [intOf]; omega
        ·
         obtain rfl : j = k := by omega
         have hx : ¬ (j : Int) < j := by omega
         have x0 := X2.box.1 0 _ rfl; have x1 := X2.box.1 1 _ rfl; have x2 := X2.box.1 2 _ rfl; have x3 := X2.box.1 3 _ rfl; have x4 := X2.box.1 4 _ rfl
         have s0 := bS2.1 0 _ rfl
         by_cases hs0 : si = 0
         ·
          have i0 : (si == 0) = true := by simpa using hs0
          have i1 : (si != 0) = false := by simpa using hs0
          have HS0 : Hid (si = 0) := hs0
          clear hs0
          cases Q with
          | true =>
           have hbad : Hid (runB ky nm (plainT tv) ss is = false) := HBAD.out fun h => by have := h.waits HS0.out; rw [← HQ.out] at this; cases this
           go_wp2_with (go_at_call 41; refine (cQ _ hB2).mono ?_; rintro e v4 ⟨rfl, hb4⟩; replace X2 := X2.below hb4; replace bS2 := bS2.below hb4; replace hB2 := Below.tr hB2 hb4; clear hb4; clear x0 x1 x2 x3 x4; have x0 := X2.box.1 0 _ rfl; have x1 := X2.box.1 1 _ rfl; have x2 := X2.box.1 2 _ rfl; have x3 := X2.box.1 3 _ rfl; have x4 := X2.box.1 4 _ rfl; replace s0 := bS2.1 0 _ rfl)
           go_ret
           exact ⟨ret_bool hbad.out.symm, hB2⟩
          | false =>
           have hnx : Hid _ := HNX.out (by trivial) HT2.out (fun _ => by trivial) (fun h _ => absurd HS0.out h)
           go_wp2_with (go_at_call 41; refine (cQ _ hB2).mono ?_; rintro e v4 ⟨rfl, hb4⟩; replace X2 := X2.below hb4; replace bS2 := bS2.below hb4; replace hB2 := Below.tr hB2 hb4; clear hb4; clear x0 x1 x2 x3 x4; have x0 := X2.box.1 0 _ rfl; have x1 := X2.box.1 1 _ rfl; have x2 := X2.box.1 2 _ rfl; have x3 := X2.box.1 3 _ rfl; have x4 := X2.box.1 4 _ rfl; replace s0 := bS2.1 0 _ rfl)
           go_roundw
           case rel => exact ⟨j + 1, by omega, by go_num, X2, hnx.out, hB2⟩
           case measure => simp [intOf]; omega
         ·
          have i0 : (si == 0) = false := by simpa using hs0
          have i1 : (si != 0) = true := by simpa using hs0
          by_cases hs5 : si = 5
          ·
           have i5 : (si != 5) = false := by simpa using hs5
           have HS5 : Hid (si = 5) := hs5
           have hnx : Hid _ := HNX.out (by trivial) HT2.out (fun h => absurd h hs0) (fun _ h => absurd hs5 h)
           clear hs0 hs5
           go_wp2
           go_roundw
           case rel => exact ⟨j + 1, by omega, by go_num, X2, hnx.out, hB2⟩
           case measure => simp [intOf]; omega
          ·
           have i5 : (si != 5) = true := by simpa using hs5
           cases Q with
           | true =>
            have hnx : Hid _ := HNX.out (by trivial) HT2.out (fun h => absurd h hs0) (fun _ _ => by trivial)
            clear hs0 hs5
            go_wp2_with (go_at_call 41; refine (cQ _ hB2).mono ?_; rintro e v4 ⟨rfl, hb4⟩; replace X2 := X2.below hb4; replace bS2 := bS2.below hb4; replace hB2 := Below.tr hB2 hb4; clear hb4; clear x0 x1 x2 x3 x4; have x0 := X2.box.1 0 _ rfl; have x1 := X2.box.1 1 _ rfl; have x2 := X2.box.1 2 _ rfl; have x3 := X2.box.1 3 _ rfl; have x4 := X2.box.1 4 _ rfl; replace s0 := bS2.1 0 _ rfl)
            go_roundw
            case rel => exact ⟨j + 1, by omega, by go_num, X2, hnx.out, hB2⟩
            case measure => simp [intOf]; omega
           | false =>
            have hbad : Hid (runB ky nm (plainT tv) ss is = false) := HBAD.out fun h => by have := h.past hs0 hs5; rw [← HQ.out] at this; cases this
            clear hs0 hs5
            go_wp2_with (go_at_call 41; refine (cQ _ hB2).mono ?_; rintro e v4 ⟨rfl, hb4⟩; replace X2 := X2.below hb4; replace bS2 := bS2.below hb4; replace hB2 := Below.tr hB2 hb4; clear hb4; clear x0 x1 x2 x3 x4; have x0 := X2.box.1 0 _ rfl; have x1 := X2.box.1 1 _ rfl; have x2 := X2.box.1 2 _ rfl; have x3 := X2.box.1 3 _ rfl; have x4 := X2.box.1 4 _ rfl; replace s0 := bS2.1 0 _ rfl)
            go_ret
            exact ⟨ret_bool hbad.out.symm, hB2⟩
     ·
      obtain rfl : n = j := by omega
      have hx : ¬ (n : Int) < n := by omega
      have hE : Hid (runB ky nm (plainT tv) ss is = true) := runB_iff.2 ⟨HK.out.1, HK.out.2, HL.out, HF.out, fun i s t hs ht => HE.out i s t (by rw [HN.out]; exact (List.getElem?_eq_some_iff.1 hs).1) hs ht⟩
      go_wp2
      go_ret
      exact ⟨ret_bool hE.out.symm, hB⟩
  ·
   have HL : Hid (runB ky nm (plainT tv) ss is = false) := notOk_len hl
   have hnq : ((n : Int) != (tn : Int)) = true := by rw [hn, htn, ← plainT_length]; simp; omega
   clear hT hZ htn hn hl hin hd
   go_enter Try.func15, Try.ntmps15
   go_wp2_with (first
    | (go_at_call 11; refine (cD _ hB0).mono ?_; rintro e w2 ⟨rfl, hb⟩; replace X := X.below hb; have hB := Below.tr hB0 hb; clear hb; clear q0 q1 q2 q3 q4; have q0 := X.box.1 0 _ rfl; have q1 := X.box.1 1 _ rfl; have q2 := X.box.1 2 _ rfl; have q3 := X.box.1 3 _ rfl; have q4 := X.box.1 4 _ rfl)
    | (go_at_call 39; refine (cF _ hB).mono ?_; rintro e w3 ⟨rfl, hb⟩; replace X := X.below hb; replace hB := Below.tr hB hb; clear hb; clear q0 q1 q2 q3 q4; have q0 := X.box.1 0 _ rfl; have q1 := X.box.1 1 _ rfl; have q2 := X.box.1 2 _ rfl; have q3 := X.box.1 3 _ rfl; have q4 := X.box.1 4 _ rfl))
   go_ret
   exact ⟨ret_bool HL.out.symm, hB⟩
 ·
  have HL : Hid (runB ky nm (plainT tv) ss is = false) := notOk_dag hd
  have hd' : (rightG nm (plainT tv) == 0) = false := by simpa using hd
  have hd2 : (rightG nm (plainT tv) != 0) = true := by simpa using hd
  generalize rightG nm (plainT tv) = G at *
  clear hT hZ htn hn
  go_enter Try.func15, Try.ntmps15
  go_wp2_with (first
   | (go_at_call 11; refine (cD _ hB0).mono ?_; rintro e w2 ⟨rfl, hb⟩; replace X := X.below hb; have hB := Below.tr hB0 hb; clear hb; clear q0 q1 q2 q3 q4; have q0 := X.box.1 0 _ rfl; have q1 := X.box.1 1 _ rfl; have q2 := X.box.1 2 _ rfl; have q3 := X.box.1 3 _ rfl; have q4 := X.box.1 4 _ rfl)
   | (go_at_call 39; refine (cF _ hB).mono ?_; rintro e w3 ⟨rfl, hb⟩; replace X := X.below hb; replace hB := Below.tr hB hb; clear hb; clear q0 q1 q2 q3 q4; have q0 := X.box.1 0 _ rfl; have q1 := X.box.1 1 _ rfl; have q2 := X.box.1 2 _ rfl; have q3 := X.box.1 3 _ rfl; have q4 := X.box.1 4 _ rfl))
  go_ret
  exact ⟨ret_bool HL.out.symm, hB⟩
end Go.Proofs.Ytpjaeaepifpmjaa

/-
  Texts laid together: LookStep LookVisit LookPairs LookGetsOf LookFind LookGet GrowGet GrowPutM GrowAllM AllocRefNew GrowEmpty GrowLaw LookOpen GrowIn GrowRef GrowOpen.
-/
import Derived.Test.YtaecfbfcjaailaaGreatBlD
import Derived.Test.YtaecfbfcjaailaaGreatBlE
import Derived.Test.YtaecfbfcjaailaaGreatBlA
import Derived.Lib.AppendZeros
import Derived.Deep.RegionHeld3
import Derived.Test.YtaecfbfcjaailaaGreatBlC
import Derived.Lib.SmallJoins
import Derived.Deep.SlicePairs
namespace Go.Proofs.YtaecfbfcjaailaaGreat
open Go.RowKit Plain
set_option linter.unusedVariables false
theorem str_empty {s : ByteArray} (h : s.size = 0) : s = ⟨#[]⟩ := by
 have h3 : s.data.size = 0 := h
 cases s with
 | mk d => simp at h3; subst h3; rfl
theorem str_full {s : ByteArray} (h : ¬ s.size = 0) : s.toList.isEmpty = false := by
 have h3 : ¬ s.toList = [] := fun e => h (by rw [ByteArray.toList_eq] at e; exact (size_list s).symm.trans (by rw [e]; rfl))
 cases hh : s.toList with
 | nil => exact absurd hh h3
 | cons _ _ => rfl
theorem getD_some {α : Type} {xs : List α} {i : Nat} {x d : α} (h : xs[i]? = some x) : xs.getD i d = x := by rw [List.getD_eq_getElem?_getD, h]; rfl
set_option maxRecDepth 20000 in
set_option maxHeartbeats 1000000 in
theorem placeWithin_any (block depth : Int) (low high : ByteArray) (a : Option Addr) (n c : Nat) (ks : List ByteArray) (w : World) (hn : n = ks.length) (hK : IsS w a c ks) :
  Calls Tryz.prog 64 #[.agg #[.int .i64 block, .int .i64 depth, .string low, .string high], .slice a n c] w fun e w' => e = .returned (.bool (withinK ks low high)) ∧ Below w.heap.size w w' := by
 have HB : Below w.heap.size w (w.alloc (.cells #[.int .i64 block, .int .i64 depth, .string low, .string high] 89)) := (Below.refl _ _).alloc (Nat.le_refl _) _
 obtain ⟨⟨x0, x1, x2, x3⟩, -⟩ := box4_new w (.int .i64 block) (.int .i64 depth) (.string low) (.string high) 89 rfl
 have mn : n ≤ 9223372036854775807 := by rw [hn]; exact Nat.le_trans hK.1 hK.2.1
 obtain ⟨r, hr⟩ : ∃ r, r = withinK ks low high := ⟨_, rfl⟩
 rw [← hr]
 cases ks with
 | nil =>
  have hrf : Hid (r = false) := by show _ = _; rw [hr]; rfl
  simp at hn
  subst hn
  clear hr hK
  go_enter Tryz.func64, Tryz.ntmps64
  go_wp2
  go_ret
  exact ⟨by rw [hrf.out]; rfl, HB⟩
 | cons k ks =>
  have hl : (k :: ks).length - 1 < (k :: ks).length := by simp
  obtain ⟨z, hz⟩ : ∃ z, (k :: ks)[(k :: ks).length - 1]? = some z := ⟨_, List.getElem?_eq_getElem hl⟩
  obtain ⟨b, o, rfl, -, hc0, -⟩ := hK.2.2 0 k rfl
  obtain ⟨b', o', heq, -, hc1, -⟩ := hK.2.2 _ z hz
  cases heq
  have hr1 : r = (!ltB k low && (decide (high.size = 0) || ltB z high)) := by rw [hr]; unfold withinK; rw [getD_some hz]; rfl
  rw [← hn] at hc1
  have z0 := cell_alloc hc0 (.cells #[.int .i64 block, .int .i64 depth, .string low, .string high] 89)
  have z1 := cell_alloc hc1 (.cells #[.int .i64 block, .int .i64 depth, .string low, .string high] 89)
  rw [Nat.add_zero] at z0
  obtain ⟨m, hm⟩ : ∃ m, n = m + 1 := ⟨n - 1, by rw [hn]; simp⟩
  subst hm
  rw [Nat.add_sub_cancel] at z1
  have k0 : (0 : Int) < ((m + 1 : Nat) : Int) := by omega
  have k1 : ¬ ((m + 1 : Nat) : Int) = 0 := by omega
  have k2 : ((m : Nat) : Int) < ((m + 1 : Nat) : Int) := by omega
  have k3 : ((m + 1 : Nat) : Int) - 1 = m := by omega
  clear hr hn hK hz hl hc0 hc1
  cases h1 : ltB k low with
  | true =>
   have h1' : Op.bytesLess k.toList low.toList = true := h1
   have hrf : Hid (r = false) := by show _ = _; rw [hr1, h1]; rfl
   clear hr1 h1
   go_enter Tryz.func64, Tryz.ntmps64
   go_wp2
   go_region
   go_wp2
   go_ret
   exact ⟨by rw [hrf.out]; rfl, HB.drew⟩
  | false =>
   have h1' : Op.bytesLess k.toList low.toList = false := h1
   by_cases h2 : high.size = 0
   ·
    obtain rfl := str_empty h2
    have hrf : Hid (r = true) := by show _ = _; rw [hr1, h1]; rfl
    clear hr1 h1
    go_enter Tryz.func64, Tryz.ntmps64
    go_wp2
    go_region
    go_wp2
    go_ret
    exact ⟨by rw [hrf.out]; rfl, HB.drew⟩
   ·
    have h5 := str_full h2
    cases h4 : ltB z high with
    | true =>
     have h4' : Op.bytesLess z.toList high.toList = true := h4
     have hrf : Hid (r = true) := by show _ = _; rw [hr1, h1, h4]; simp
     clear hr1 h1 h2 h4
     go_enter Tryz.func64, Tryz.ntmps64
     go_wp2
     go_region
     go_wp2
     go_ret
     exact ⟨by rw [hrf.out]; rfl, HB.drew⟩
    | false =>
     have h4' : Op.bytesLess z.toList high.toList = false := h4
     have hrf : Hid (r = false) := by show _ = _; rw [hr1, h1, h4]; simp [h2]
     clear hr1 h1 h2 h4
     go_enter Tryz.func64, Tryz.ntmps64
     go_wp2
     go_region
     go_wp2
     go_ret
     exact ⟨by rw [hrf.out]; rfl, HB.drew⟩
def levelW (V : World) (h : Nat) (lv d : Int) : World := if lv = 0 then V.setCell ⟨h, 5, none⟩ (.int .i64 d) else V
set_option maxRecDepth 20000 in
theorem level_any (V : World) (h : Nat) (v0 v1 v2 v3 v4 : Value) (lv d : Int) (b : WalkBox V h v0 v1 v2 v3 v4 lv) :
  Calls Tryz.prog 65 #[.pointer (some ⟨h, 0, none⟩), .int .i64 d] V fun e w' => e = .returned (.bool (decide (lv = 0 ∨ lv = d))) ∧ levelW V h lv d = w' := by
 obtain ⟨-, c5, f5⟩ := b
 unfold levelW
 by_cases h0 : lv = 0
 ·
  subst h0
  rw [if_pos rfl]
  have s5 : (V.setCell ⟨h, 5, none⟩ (.int .i64 d)).cell? ⟨h, 5, none⟩ = some (.int .i64 d) := World.cell?_setCell_same _ _ _ c5
  go_enter Tryz.func65, Tryz.ntmps65
  go_wp2
  go_ret
  exact ⟨ret_bool (by simp), rfl⟩
 ·
  rw [if_neg h0]
  have h0' : (lv == 0) = false := by simpa using h0
  have hrf : Hid (decide (lv = 0 ∨ lv = d) = (lv == d)) := by show _ = _; simp [h0]; rfl
  go_enter Tryz.func65, Tryz.ntmps65
  go_wp2
  go_ret
  exact ⟨ret_bool hrf.out.symm, rfl⟩
set_option maxRecDepth 20000 in
theorem top_any (V : World) (h : Nat) (v0 v1 v2 v4 : Value) (root : Int) (b : WoodBox V h v0 v1 v2 (.int .i64 root) v4) :
  Calls Tryz.prog 46 #[.pointer (some ⟨h, 0, none⟩)] V fun e w' => e = .returned (.agg #[.int .i64 root, .int .i64 1, .string ⟨#[]⟩, .string ⟨#[]⟩]) ∧ Below V.heap.size V w' := by
 have HB : Below V.heap.size V (V.alloc (.cells #[.int .i64 0, .int .i64 0, .string ⟨#[]⟩, .string ⟨#[]⟩] 89)) := (Below.refl _ _).alloc (Nat.le_refl _) _
 have BP := box4_new V (.int .i64 0) (.int .i64 0) (.string ⟨#[]⟩) (.string ⟨#[]⟩) 89 rfl
 obtain ⟨x0, x1, x2, x3, x4⟩ := b.below HB
 obtain ⟨⟨r0, r1, r2, r3⟩, f0, f1, f2, f3⟩ := id BP
 go_enter Tryz.func46, Tryz.ntmps46
 go_wp2
 refine bodyPost_ret (v := .agg #[.int .i64 root, .int .i64 1, .string ⟨#[]⟩, .string ⟨#[]⟩]) (by simp [results, Tryz.results46, go_sem]) rfl ?_
 exact ⟨rfl, (Below.refl _ _).alloc (Nat.le_refl _) _⟩
set_option maxRecDepth 20000 in
set_option maxHeartbeats 2000000 in
theorem placeBelow_any (block depth : Int) (low high : ByteArray) (l : Bool) (a a' a'' : Option Addr) (n c n' c' n'' c'' : Nat) (ks vs : List ByteArray) (cs : List Int) (i : Nat) (kb : Int) (w : World) (e1 : n = ks.length) (e3 : n'' = cs.length) (i1 : IsS w a c ks) (i3 : IsI w a'' c'' cs) (hi : cs[i]? = some kb) (hc : cs.length = ks.length + 1) (hd : 0 ≤ depth ∧ depth ≤ 100) :
  Calls Tryz.prog 49 #[.agg #[.int .i64 block, .int .i64 depth, .string low, .string high], .agg #[.bool l, .slice a n c, .slice a' n' c', .slice a'' n'' c''], .int .i64 i] w fun e w' => e = .returned (.agg #[.int .i64 kb, .int .i64 (depth + 1), .string (kidFrom low ks i), .string (kidTo high ks i)]) ∧ Below w.heap.size w w' := by
 obtain ⟨W, hW⟩ : ∃ W, W = ((w.alloc (.cells #[.int .i64 block, .int .i64 depth, .string low, .string high] 89)).alloc (.cells #[.bool l, .slice a n c, .slice a' n' c', .slice a'' n'' c''] 76)).alloc (.cells #[.int .i64 0, .int .i64 0, .string ⟨#[]⟩, .string ⟨#[]⟩] 89) := ⟨_, rfl⟩
 have HB : Below w.heap.size w W := by rw [hW]; exact (((Below.refl _ _).alloc (Nat.le_refl _) _).alloc (by simp) _).alloc (by simp only [World.size_alloc]; omega) _
 have BP : Box4 W w.heap.size (.int .i64 block) (.int .i64 depth) (.string low) (.string high) := by rw [hW]; exact ((box4_new _ _ _ _ _ _ rfl).alloc _).alloc _
 have BN : Box4 W (w.heap.size + 1) (.bool l) (.slice a n c) (.slice a' n' c') (.slice a'' n'' c'') := by rw [hW]; exact (box4_new _ _ _ _ _ _ (by simp)).alloc _
 have BR : Box4 W (w.heap.size + 1 + 1) (.int .i64 0) (.int .i64 0) (.string ⟨#[]⟩) (.string ⟨#[]⟩) := by rw [hW]; exact box4_new _ _ _ _ _ _ (by simp)
 have mn : n ≤ 9223372036854775807 := by rw [e1]; exact Nat.le_trans i1.1 i1.2.1
 have mn'' : n'' ≤ 9223372036854775807 := by rw [e3]; exact Nat.le_trans i3.1 i3.2.1
 have hil := (List.getElem?_eq_some_iff.1 hi).1
 have hi' : (i : Int) < n'' := by omega
 obtain ⟨b, o, rfl, -, hc0⟩ := i3.2.2 i kb hi
 have z := cell_below HB hc0
 have hdw : IntKind.i64.wrap (depth + 1) = depth + 1 := by rw [IntKind.wrap_i64]; omega
 obtain ⟨x, hx⟩ : ∃ x, x = kidFrom low ks i := ⟨_, rfl⟩
 obtain ⟨y, hy⟩ : ∃ y, y = kidTo high ks i := ⟨_, rfl⟩
 rw [← hx, ← hy]
 obtain ⟨⟨p0, p1, p2, p3⟩, -⟩ := id (hW ▸ BP)
 obtain ⟨⟨q0, q1, q2, q3⟩, -⟩ := id (hW ▸ BN)
 obtain ⟨⟨r0, r1, r2, r3⟩, f0, f1, f2, f3⟩ := id (hW ▸ BR)
 rw [hW] at z
 have z' := cell_alloc z (.cells #[.int .i64 0, .int .i64 0, .string ⟨#[]⟩, .string ⟨#[]⟩] 89)
 have E1 : Hid (n = ks.length ∧ n'' = cs.length ∧ cs.length = ks.length + 1) := ⟨e1, e3, hc⟩
 have I1 : Hid (IsS w a c ks) := i1
 have X : Hid (x = kidFrom low ks i ∧ y = kidTo high ks i) := ⟨hx, hy⟩
 clear e1 e3 hc hi hil i1 i3 hc0 hx hy
 go_enter Tryz.func49, Tryz.ntmps49
 go_wp2
 go_region
 rw [← hW]
 have HU : Below W.heap.size W (W.alloc (.cells #[.int .i64 kb, .int .i64 (depth + 1), .string low, .string high] 89)).drew := ((Below.refl _ _).alloc (Nat.le_refl _) _).drew
 have hWs : W.heap.size = w.heap.size + 1 + 1 + 1 := by rw [hW]; simp
 have BK : Box4 (W.alloc (.cells #[.int .i64 kb, .int .i64 (depth + 1), .string low, .string high] 89)).drew (w.heap.size + 1 + 1 + 1) (.int .i64 kb) (.int .i64 (depth + 1)) (.string low) (.string high) := (box4_new _ _ _ _ _ _ hWs.symm).drew
 generalize (W.alloc (.cells #[.int .i64 kb, .int .i64 (depth + 1), .string low, .string high] 89)).drew = U at HU BK ⊢
 replace HB := Below.tr HB HU
 replace BN := BN.below HU
 replace BR := BR.below HU
 clear p0 p1 p2 p3 q0 q1 q2 q3 r0 r1 r2 r3 f0 f1 f2 f3 z z' hW BP HU hWs
 have hil : i ≤ ks.length := by have := E1.out; omega
 by_cases h0 : i = 0
 ·
  by_cases h1 : i < ks.length
  ·
   obtain ⟨⟨q0, q1, q2, q3⟩, -⟩ := id BN
   obtain ⟨⟨k0, k1, k2, k3⟩, kf0, kf1, kf2, kf3⟩ := id BK
   obtain rfl : x = low := by rw [X.out.1]; unfold kidFrom; rw [if_pos h0]
   have hm0 : ¬ (0 : Int) < i := by omega
   obtain ⟨ky, hky⟩ : ∃ k, Hid (ks[i]? = some k) := get_some h1
   obtain ⟨b1, o1, rfl, hlt1, hc2, -⟩ := I1.out.2.2 i ky hky.out
   have zk := cell_below HB hc2
   obtain rfl : y = ky := by rw [X.out.2]; unfold kidTo; rw [if_pos h1]; exact getD_some hky.out
   have hn1 : (i : Int) < n := by have := E1.out; omega
   replace BK := BK.set3 (.string y)
   replace BR := BR.other (p := ⟨w.heap.size + 1 + 1 + 1, 3, none⟩) (by simp) (.string y)
   replace HB : Below w.heap.size w (U.setCell ⟨w.heap.size + 1 + 1 + 1, 3, none⟩ (.string y)) := HB.setCell (by simp; omega) _
   obtain ⟨⟨u0, u1, u2, u3⟩, -⟩ := id BK
   obtain ⟨⟨r0, r1, r2, r3⟩, rf0, rf1, rf2, rf3⟩ := id BR
   clear hil h0 h1 X E1 I1 BN BK BR hd mn'' hi' hky hc2 hlt1
   go_wp2
   refine bodyPost_ret (v := .agg #[.int .i64 kb, .int .i64 (depth + 1), .string x, .string y]) (by simp [results, Tryz.results49, go_sem, r0, r1, r2, r3]) rfl ?_
   exact ⟨rfl, below_put4 HB (by omega) _ _ _ _⟩
  ·
   obtain ⟨⟨q0, q1, q2, q3⟩, -⟩ := id BN
   obtain ⟨⟨k0, k1, k2, k3⟩, kf0, kf1, kf2, kf3⟩ := id BK
   obtain rfl : x = low := by rw [X.out.1]; unfold kidFrom; rw [if_pos h0]
   have hm0 : ¬ (0 : Int) < i := by omega
   obtain rfl : y = high := by rw [X.out.2]; unfold kidTo; rw [if_neg h1]
   have hn1 : ¬ (i : Int) < n := by have := E1.out; omega
   obtain ⟨⟨r0, r1, r2, r3⟩, rf0, rf1, rf2, rf3⟩ := id BR
   clear hil h0 h1 X E1 I1 BN BK BR hd mn'' hi'
   go_wp2
   refine bodyPost_ret (v := .agg #[.int .i64 kb, .int .i64 (depth + 1), .string x, .string y]) (by simp [results, Tryz.results49, go_sem, r0, r1, r2, r3]) rfl ?_
   exact ⟨rfl, below_put4 HB (by omega) _ _ _ _⟩
 ·
  by_cases h1 : i < ks.length
  ·
   obtain ⟨⟨q0, q1, q2, q3⟩, -⟩ := id BN
   obtain ⟨⟨k0, k1, k2, k3⟩, kf0, kf1, kf2, kf3⟩ := id BK
   obtain ⟨m, hm⟩ : ∃ m : Nat, (i : Int) - 1 = m := ⟨i - 1, by omega⟩
   obtain ⟨kx, hkx⟩ : ∃ k, Hid (ks[m]? = some k) := get_some (by omega)
   obtain ⟨b1, o1, rfl, hlt1, hc1, -⟩ := I1.out.2.2 m kx hkx.out
   have zm := cell_below HB hc1
   have hm1 : (m : Int) < n := by have := E1.out; omega
   obtain rfl : x = kx := by rw [X.out.1]; unfold kidFrom; rw [if_neg h0, show i - 1 = m by omega]; exact getD_some hkx.out
   replace BK := BK.set2 (.string x)
   replace BN := BN.other (p := ⟨w.heap.size + 1 + 1 + 1, 2, none⟩) (fun e => by have e' : w.heap.size + 1 + 1 + 1 = w.heap.size + 1 := e; omega) (.string x)
   replace BR := BR.other (p := ⟨w.heap.size + 1 + 1 + 1, 2, none⟩) (by simp) (.string x)
   replace HB : Below w.heap.size w (U.setCell ⟨w.heap.size + 1 + 1 + 1, 2, none⟩ (.string x)) := HB.setCell (by simp; omega) _
   obtain ⟨⟨s0, s1, s2, s3⟩, -⟩ := id BN
   obtain ⟨⟨t0, t1, t2, t3⟩, tf0, tf1, tf2, tf3⟩ := id BK
   have hm0 : (0 : Int) < i := by omega
   obtain ⟨ky, hky⟩ : ∃ k, Hid (ks[i]? = some k) := get_some h1
   obtain ⟨b2, o2, heq, -, hc2, -⟩ := I1.out.2.2 i ky hky.out
   cases heq
   have zk := cell_below HB hc2
   obtain rfl : y = ky := by rw [X.out.2]; unfold kidTo; rw [if_pos h1]; exact getD_some hky.out
   have hn1 : (i : Int) < n := by have := E1.out; omega
   replace BK := BK.set3 (.string y)
   replace BR := BR.other (p := ⟨w.heap.size + 1 + 1 + 1, 3, none⟩) (by simp) (.string y)
   replace HB : Below w.heap.size w ((U.setCell ⟨w.heap.size + 1 + 1 + 1, 2, none⟩ (.string x)).setCell ⟨w.heap.size + 1 + 1 + 1, 3, none⟩ (.string y)) := HB.setCell (by simp; omega) _
   obtain ⟨⟨u0, u1, u2, u3⟩, -⟩ := id BK
   obtain ⟨⟨r0, r1, r2, r3⟩, rf0, rf1, rf2, rf3⟩ := id BR
   clear hil h0 h1 X E1 I1 BN BK BR hd mn'' hi' hkx hlt1 hc1 hky hc2
   go_wp2
   refine bodyPost_ret (v := .agg #[.int .i64 kb, .int .i64 (depth + 1), .string x, .string y]) (by simp [results, Tryz.results49, go_sem, r0, r1, r2, r3]) rfl ?_
   exact ⟨rfl, below_put4 HB (by omega) _ _ _ _⟩
  ·
   obtain ⟨⟨q0, q1, q2, q3⟩, -⟩ := id BN
   obtain ⟨⟨k0, k1, k2, k3⟩, kf0, kf1, kf2, kf3⟩ := id BK
   obtain ⟨m, hm⟩ : ∃ m : Nat, (i : Int) - 1 = m := ⟨i - 1, by omega⟩
   obtain ⟨kx, hkx⟩ : ∃ k, Hid (ks[m]? = some k) := get_some (by omega)
   obtain ⟨b1, o1, rfl, hlt1, hc1, -⟩ := I1.out.2.2 m kx hkx.out
   have zm := cell_below HB hc1
   have hm1 : (m : Int) < n := by have := E1.out; omega
   obtain rfl : x = kx := by rw [X.out.1]; unfold kidFrom; rw [if_neg h0, show i - 1 = m by omega]; exact getD_some hkx.out
   replace BK := BK.set2 (.string x)
   replace BN := BN.other (p := ⟨w.heap.size + 1 + 1 + 1, 2, none⟩) (fun e => by have e' : w.heap.size + 1 + 1 + 1 = w.heap.size + 1 := e; omega) (.string x)
   replace BR := BR.other (p := ⟨w.heap.size + 1 + 1 + 1, 2, none⟩) (by simp) (.string x)
   replace HB : Below w.heap.size w (U.setCell ⟨w.heap.size + 1 + 1 + 1, 2, none⟩ (.string x)) := HB.setCell (by simp; omega) _
   obtain ⟨⟨s0, s1, s2, s3⟩, -⟩ := id BN
   obtain ⟨⟨t0, t1, t2, t3⟩, tf0, tf1, tf2, tf3⟩ := id BK
   have hm0 : (0 : Int) < i := by omega
   obtain rfl : y = high := by rw [X.out.2]; unfold kidTo; rw [if_neg h1]
   have hn1 : ¬ (i : Int) < n := by have := E1.out; omega
   obtain ⟨⟨r0, r1, r2, r3⟩, rf0, rf1, rf2, rf3⟩ := id BR
   clear hil h0 h1 X E1 I1 BN BK BR hd mn'' hi' hkx hlt1 hc1
   go_wp2
   refine bodyPost_ret (v := .agg #[.int .i64 kb, .int .i64 (depth + 1), .string x, .string y]) (by simp [results, Tryz.results49, go_sem, r0, r1, r2, r3]) rfl ?_
   exact ⟨rfl, below_put4 HB (by omega) _ _ _ _⟩
structure Only5 (h : Nat) (V V' : World) : Prop where
 t : Turns (fun k => k = h) V V'
 c : ∀ i v, i ≠ 5 → V.cell? ⟨h, i, none⟩ = some v → V'.cell? ⟨h, i, none⟩ = some v
 f : ∀ i v, V.cell? ⟨h, i, none⟩ = some v → V.frozen? ⟨h, i, none⟩ = false → V'.frozen? ⟨h, i, none⟩ = false
theorem Only5.of_below {h : Nat} {V V' : World} (hb : Below V.heap.size V V') : Only5 h V V' :=
 ⟨Turns.of_below hb, fun i v _ hc => cell_below hb hc, fun i v hc hf => by rw [hb.frozen (p := ⟨h, i, none⟩) (cell_lt hc)]; exact hf⟩
theorem only5_set {h : Nat} (V : World) (v : Value) : Only5 h V (V.setCell ⟨h, 5, none⟩ v) :=
 ⟨Turns.setCell (P := fun k => k = h) (Turns.refl _ _) (p := ⟨h, 5, none⟩) rfl _, fun i u hi hc => by rw [World.cell?_setCell_other _ _ _ _ (fun hh => by cases hh; exact hi rfl)]; exact hc, fun i u hc hf => by rw [World.frozen?_setCell]; exact hf⟩
theorem only5_level {h : Nat} (V : World) (lv d : Int) : Only5 h V (levelW V h lv d) := by
 unfold levelW
 split
 ·
  exact only5_set V _
 ·
  exact Only5.of_below (Below.refl _ _)
theorem Only5.low {h : Nat} {V U U' : World} (hb : Only5 h V U) (t : Only5 h U U') (c5 : ∀ i v, V.cell? ⟨h, i, none⟩ = some v → ∃ u, U.cell? ⟨h, i, none⟩ = some u) : Only5 h V U' :=
 ⟨hb.t.trans t.t, fun i v hi hc => t.c i v hi (hb.c i v hi hc), fun i v hc hf => by
  obtain ⟨u, hu⟩ := c5 i v hc
  exact t.f i u hu (hb.f i v hc hf)⟩
theorem WalkBox.level {V : World} {h : Nat} {v0 v1 v2 v3 v4 : Value} {lv : Int} (b : WalkBox V h v0 v1 v2 v3 v4 lv) (d : Int) : WalkBox (levelW V h lv d) h v0 v1 v2 v3 v4 (if lv = 0 then d else lv) := by
 unfold levelW
 split
 ·
  obtain ⟨⟨c0, c1, c2, c3, c4⟩, c5, f5⟩ := b
  refine ⟨⟨?_, ?_, ?_, ?_, ?_⟩, World.cell?_setCell_same _ _ _ c5, by rw [World.frozen?_setCell]; exact f5⟩
  all_goals (rw [World.cell?_setCell_other _ _ _ _ (fun hh => by cases hh)]; assumption)
 ·
  exact b
def levelO (O : Option NodeS) (lv d : Int) : Int := match O with
 | some n => if n.1 = true then d else lv
 | none => lv
def seenO (O : Option NodeS) (low high : ByteArray) (lv d : Int) : Option NodeS := match O with
 | none => none
 | some n => if withinK n.2.1 low high = true ∧ (n.1 = true → lv = 0 ∨ lv = d) then some n else none
theorem visitS_seen (H : Int → Bool → Option NodeS) (lv : Int) (k : Nat) (block : Int) (low high : ByteArray) : visitS H lv (k + 1) block low high = seenO (H block (decide (k = 7))) low high lv (8 - (k : Int)) := by
 unfold visitS seenO
 simp only
 cases H block (decide (k = 7)) <;> rfl
def VisitC (V : World) (h : Nat) (v0 v1 v2 v3 v4 : Value) (x : Ending) (V' : World) (lv : Int) (nd : NodeS) (E : Int) : Prop :=
 ∃ k1 a1 d1 k2 a2 d2 k3 a3 d3, x = .returned (.tuple #[.agg #[.bool nd.1, .slice a1 k1 d1, .slice a2 k2 d2, .slice a3 k3 d3], .int .i64 E]) ∧ k1 = nd.2.1.length ∧ k2 = nd.2.2.1.length ∧ k3 = nd.2.2.2.length ∧
  IsS V' a1 d1 nd.2.1 ∧ IsS V' a2 d2 nd.2.2.1 ∧ IsI V' a3 d3 nd.2.2.2 ∧ From V.heap.size a1 ∧ From V.heap.size a2 ∧ From V.heap.size a3 ∧ WalkBox V' h v0 v1 v2 v3 v4 lv ∧ Only5 h V V'
theorem Only5.put {h g : Nat} {V U : World} (t : Only5 h V U) (hh : h < V.heap.size) (hg : V.heap.size ≤ g) (u0 u1 u2 u3 : Value) : Only5 h V ((((U.setCell ⟨g, 0, none⟩ u0).setCell ⟨g, 1, none⟩ u1).setCell ⟨g, 2, none⟩ u2).setCell ⟨g, 3, none⟩ u3) := by
 have hne : ∀ (i j : Nat), (⟨h, i, none⟩ : Addr) ≠ ⟨g, j, none⟩ := fun i j e => by cases e; omega
 have T := turns_put4 U g u0 u1 u2 u3
 refine ⟨⟨T.os.trans t.t.os, T.tape.trans t.t.tape, T.output.trans t.t.output, Nat.le_trans t.t.size T.size, fun k hk hp => ?_⟩, fun i v hi hc => ?_, fun i v hc hf => ?_⟩
 ·
  exact (T.block k (Nat.lt_of_lt_of_le hk t.t.size) (by omega)).trans (t.t.block k hk hp)
 ·
  exact T.cell (p := ⟨h, i, none⟩) (show ¬ h = g by omega) (t.c i v hi hc)
 ·
  rw [World.frozen?_setCell, World.frozen?_setCell, World.frozen?_setCell, World.frozen?_setCell]
  exact t.f i v hc hf
theorem WalkBox.put {h g : Nat} {U : World} {v0 v1 v2 v3 v4 : Value} {lv : Int} (b : WalkBox U h v0 v1 v2 v3 v4 lv) (hg : h ≠ g) (u0 u1 u2 u3 : Value) : WalkBox ((((U.setCell ⟨g, 0, none⟩ u0).setCell ⟨g, 1, none⟩ u1).setCell ⟨g, 2, none⟩ u2).setCell ⟨g, 3, none⟩ u3) h v0 v1 v2 v3 v4 lv := by
 have hne : ∀ (i j : Nat), (⟨h, i, none⟩ : Addr) ≠ ⟨g, j, none⟩ := fun i j e => by cases e; exact hg rfl
 have T := turns_put4 U g u0 u1 u2 u3
 exact ⟨b.1.turns T hg, T.cell (p := ⟨h, 5, none⟩) hg b.2.1, by rw [World.frozen?_setCell, World.frozen?_setCell, World.frozen?_setCell, World.frozen?_setCell]; exact b.2.2⟩
theorem visitC_none {V U : World} {h : Nat} {v0 v1 v2 v3 v4 : Value} {lv E : Int} (b : WalkBox U h v0 v1 v2 v3 v4 lv) (t : Only5 h V U) : VisitC V h v0 v1 v2 v3 v4 (.returned (.tuple #[.agg #[.bool false, .slice none 0 0, .slice none 0 0, .slice none 0 0], .int .i64 E])) U lv (false, [], [], []) E :=
 ⟨_, _, _, _, _, _, _, _, _, rfl, rfl, rfl, rfl, isS_nil _, isS_nil _, isI_nil _, from_nil _, from_nil _, from_nil _, b, t⟩
set_option maxRecDepth 20000 in
set_option maxHeartbeats 4000000 in
theorem visit_any (w V : World) (h : Nat) (a a' b : Option Addr) (n c n' c' p f : Nat) (ns : List Bool) (ps : List ByteArray) (root gen block d : Int) (low high : ByteArray) (k : Nat) (lv : Int) (hn' : n' = ns.length) (hp : p = ps.length) (hpn : p = n') (hV : Below w.heap.size w V) (hB' : IsB w a' c' ns) (hP : IsS w b f ps)
  (hk : k ≤ 8) (hd : d = 9 - (k : Int)) (WB : WalkBox V h (.slice a n c) (.slice a' n' c') (.slice b p f) (.int .i64 root) (.int .i64 gen) lv) :
  Calls Tryz.prog 47 #[.pointer (some ⟨h, 0, none⟩), .agg #[.int .i64 block, .int .i64 d, .string low, .string high]] V fun x V' => VisitC V h (.slice a n c) (.slice a' n' c') (.slice b p f) (.int .i64 root) (.int .i64 gen) x V' (levelO (visitS (holdsS ns ps gen) lv k block low high) lv d) (nodeO (visitS (holdsS ns ps gen) lv k block low high)) (errO (visitS (holdsS ns ps gen) lv k block low high)) := by
 obtain ⟨W, hW⟩ : ∃ W, W = (V.alloc (.cells #[.int .i64 block, .int .i64 d, .string low, .string high] 89)).alloc (.cells #[.bool false, .slice none 0 0, .slice none 0 0, .slice none 0 0] 76) := ⟨_, rfl⟩
 have OV : Below V.heap.size V W := by rw [hW]; exact ((Below.refl _ _).alloc (Nat.le_refl _) _).alloc (by simp) _
 have HB : Below w.heap.size w W := Below.tr hV OV
 have hlt : h < V.heap.size := cell_lt WB.2.1
 have BP : Box4 W V.heap.size (.int .i64 block) (.int .i64 d) (.string low) (.string high) := by rw [hW]; exact (box4_new _ _ _ _ _ _ rfl).alloc _
 have BR : Box4 W (V.heap.size + 1) (.bool false) (.slice none 0 0) (.slice none 0 0) (.slice none 0 0) := by rw [hW]; exact box4_new _ _ _ _ _ _ (by simp)
 replace WB := WB.below OV
 obtain ⟨O, hO⟩ : ∃ O, O = visitS (holdsS ns ps gen) lv k block low high := ⟨_, rfl⟩
 rw [← hO]
 obtain ⟨rt, hrt⟩ : ∃ rt : Bool, (d == 1) = rt := ⟨_, rfl⟩
 obtain ⟨O1, hO1⟩ : ∃ O, O = holdsS ns ps gen block rt := ⟨_, rfl⟩
 have cL0 : ∀ U, Below w.heap.size w U → WoodBox U h (.slice a n c) (.slice a' n' c') (.slice b p f) (.int .i64 root) (.int .i64 gen) → Calls Tryz.prog 63 #[.pointer (some ⟨h, 0, none⟩), .int .i64 block, .bool rt] U fun x V' => Answers U x V' (nodeO O1).1 (nodeO O1).2.1 (nodeO O1).2.2.1 (nodeO O1).2.2.2 (errO O1) := fun U hU hb => by
  refine (load_any h a a' b n c n' c' p f ns ps root gen block rt U hn' hp hpn hb (hB'.below hU) (hP.below hU)).mono fun x V' hx => ?_
  rw [← hO1, loadC_true] at hx
  exact hx
 obtain ⟨⟨p0, p1, p2, p3⟩, -⟩ := id (hW ▸ BP)
 obtain ⟨⟨r0, r1, r2, r3⟩, f0, f1, f2, f3⟩ := id (hW ▸ BR)
 cases k with
 | zero =>
  have h9 : (8 : Int) < d := by omega
  replace hO1 : O = none := hO
  clear hn' hp hpn hB' hP hd cL0 hO hrt
  go_enter Tryz.func47, Tryz.ntmps47
  go_wp2
  rw [← hW] at r0 r1 r2 r3 ⊢
  refine bodyPost_ret (v := .tuple #[.agg #[.bool false, .slice none 0 0, .slice none 0 0, .slice none 0 0], .int .i64 81]) (by simp [results, Tryz.results47, go_sem, r0, r1, r2, r3]) rfl ?_
  rw [hO1]
  exact visitC_none WB (Only5.of_below OV)
 | succ k =>
  have h9 : ¬ (8 : Int) < d := by omega
  have hrk : rt = decide (k = 7) := by rw [← hrt]; by_cases e : k = 7 <;> simp [e, hd] <;> omega
  have hO2 : O = seenO O1 low high lv d := by
   have hd8 : d = (8 : Int) - (k : Int) := by omega
   rw [hO, hO1, hrk, hd8]
   exact visitS_seen _ _ _ _ _ _
  clear hn' hp hpn hB' hP hd hO hO1 hrk hk
  cases O1 with
  | none =>
   replace hO1 : O = none := hO2
   obtain ⟨⟨nl, nk, nv, nc⟩, hN⟩ : ∃ x : NodeS, x = (false, [], [], []) := ⟨_, rfl⟩
   have cL : ∀ U, Below w.heap.size w U → WoodBox U h (.slice a n c) (.slice a' n' c') (.slice b p f) (.int .i64 root) (.int .i64 gen) → Calls Tryz.prog 63 #[.pointer (some ⟨h, 0, none⟩), .int .i64 block, .bool rt] U fun x V' => Answers U x V' nl nk nv nc 81 := fun U hU hb => by have := cL0 U hU hb; cases hN; exact this
   clear cL0 hO2 hN
   go_enter Tryz.func47, Tryz.ntmps47
   go_wp2_with (
    (go_at_call 63; rw [← hW]; refine (cL _ HB WB.1).mono ?_; rintro y w1 ⟨k1, a1, d1, k2, a2, d2, k3, a3, d3, rfl, e1, e2, e3, i1, i2, i3, j1, j2, j3, hb⟩; have hA : Below w1.heap.size w1 (w1.alloc (.cells #[.bool nl, .slice a1 k1 d1, .slice a2 k2 d2, .slice a3 k3 d3] 76)) := (Below.refl _ _).alloc (Nat.le_refl _) _; have BN := box4_new w1 (.bool nl) (.slice a1 k1 d1) (.slice a2 k2 d2) (.slice a3 k3 d3) 76 rfl; have hlo : V.heap.size + 1 + 1 ≤ W.heap.size := (by rw [hW]; simp); replace HB := Below.tr (Below.tr HB hb) hA; replace OV := Below.tr (Below.tr OV hb) hA; replace BP := (BP.below hb).below hA; replace BR := (BR.below hb).below hA; replace WB := (WB.below hb).below hA; clear r0 r1 r2 r3 f0 f1 f2 f3 p0 p1 p2 p3; obtain ⟨⟨p0, p1, p2, p3⟩, -⟩ := id BP; obtain ⟨⟨r0, r1, r2, r3⟩, f0, f1, f2, f3⟩ := id BR; obtain ⟨⟨n0, n1, n2, n3⟩, -⟩ := id BN; have E : Hid (k1 = nk.length ∧ k2 = nv.length ∧ k3 = nc.length) := ⟨e1, e2, e3⟩; have I : Hid (IsS (w1.alloc (.cells #[.bool nl, .slice a1 k1 d1, .slice a2 k2 d2, .slice a3 k3 d3] 76)) a1 d1 nk ∧ IsS (w1.alloc (.cells #[.bool nl, .slice a1 k1 d1, .slice a2 k2 d2, .slice a3 k3 d3] 76)) a2 d2 nv ∧ IsI (w1.alloc (.cells #[.bool nl, .slice a1 k1 d1, .slice a2 k2 d2, .slice a3 k3 d3] 76)) a3 d3 nc) := ⟨i1.below hA, i2.below hA, i3.below hA⟩; have J : Hid (From (V.heap.size + 1 + 1) a1 ∧ From (V.heap.size + 1 + 1) a2 ∧ From (V.heap.size + 1 + 1) a3) := ⟨j1.mono hlo, j2.mono hlo, j3.mono hlo⟩; have hN : V.heap.size + 1 + 1 ≤ w1.heap.size := (Nat.le_trans hlo hb.size); clear hb hA hlo e1 e2 e3 i1 i2 i3 j1 j2 j3))
   refine bodyPost_ret (v := .tuple #[.agg #[.bool false, .slice none 0 0, .slice none 0 0, .slice none 0 0], .int .i64 81]) (by simp [results, Tryz.results47, go_sem, r0, r1, r2, r3]) rfl ?_
   rw [hO1]
   exact visitC_none (WB.put (by omega) _ _ _ _) ((Only5.of_below OV).put hlt (by omega) _ _ _ _)
  | some nd =>
   obtain ⟨nl, nk, nv, nc⟩ := nd
   have cL : ∀ U, Below w.heap.size w U → WoodBox U h (.slice a n c) (.slice a' n' c') (.slice b p f) (.int .i64 root) (.int .i64 gen) → Calls Tryz.prog 63 #[.pointer (some ⟨h, 0, none⟩), .int .i64 block, .bool rt] U fun x V' => Answers U x V' nl nk nv nc 0 := cL0
   have cI0 : ∀ U a1 k1 d1, k1 = nk.length → IsS U a1 d1 nk → Calls Tryz.prog 64 #[.agg #[.int .i64 block, .int .i64 d, .string low, .string high], .slice a1 k1 d1] U fun e w' => e = .returned (.bool (withinK nk low high)) ∧ Below U.heap.size U w' := fun U a1 k1 d1 h1 h2 => placeWithin_any block d low high a1 k1 d1 nk U h1 h2
   replace hO2 : O = if withinK nk low high = true ∧ (nl = true → lv = 0 ∨ lv = d) then some (nl, nk, nv, nc) else none := hO2
   clear cL0
   cases hwi : withinK nk low high with
   | false =>
    have cI : ∀ U a1 k1 d1, k1 = nk.length → IsS U a1 d1 nk → Calls Tryz.prog 64 #[.agg #[.int .i64 block, .int .i64 d, .string low, .string high], .slice a1 k1 d1] U fun e w' => e = .returned (.bool false) ∧ Below U.heap.size U w' := fun U a1 k1 d1 h1 h2 => by have := cI0 U a1 k1 d1 h1 h2; rw [hwi] at this; exact this
    have hO1 : O = none := by rw [hO2, if_neg (fun h => by rw [hwi] at h; exact absurd h.1 (by decide))]
    clear cI0 hwi hO2
    go_enter Tryz.func47, Tryz.ntmps47
    go_wp2_with (first
     | (go_at_call 63; rw [← hW]; refine (cL _ HB WB.1).mono ?_; rintro y w1 ⟨k1, a1, d1, k2, a2, d2, k3, a3, d3, rfl, e1, e2, e3, i1, i2, i3, j1, j2, j3, hb⟩; have hA : Below w1.heap.size w1 (w1.alloc (.cells #[.bool nl, .slice a1 k1 d1, .slice a2 k2 d2, .slice a3 k3 d3] 76)) := (Below.refl _ _).alloc (Nat.le_refl _) _; have BN := box4_new w1 (.bool nl) (.slice a1 k1 d1) (.slice a2 k2 d2) (.slice a3 k3 d3) 76 rfl; have hlo : V.heap.size + 1 + 1 ≤ W.heap.size := (by rw [hW]; simp); replace HB := Below.tr (Below.tr HB hb) hA; replace OV := Below.tr (Below.tr OV hb) hA; replace BP := (BP.below hb).below hA; replace BR := (BR.below hb).below hA; replace WB := (WB.below hb).below hA; clear r0 r1 r2 r3 f0 f1 f2 f3 p0 p1 p2 p3; obtain ⟨⟨p0, p1, p2, p3⟩, -⟩ := id BP; obtain ⟨⟨r0, r1, r2, r3⟩, f0, f1, f2, f3⟩ := id BR; obtain ⟨⟨n0, n1, n2, n3⟩, -⟩ := id BN; have E : Hid (k1 = nk.length ∧ k2 = nv.length ∧ k3 = nc.length) := ⟨e1, e2, e3⟩; have I : Hid (IsS (w1.alloc (.cells #[.bool nl, .slice a1 k1 d1, .slice a2 k2 d2, .slice a3 k3 d3] 76)) a1 d1 nk ∧ IsS (w1.alloc (.cells #[.bool nl, .slice a1 k1 d1, .slice a2 k2 d2, .slice a3 k3 d3] 76)) a2 d2 nv ∧ IsI (w1.alloc (.cells #[.bool nl, .slice a1 k1 d1, .slice a2 k2 d2, .slice a3 k3 d3] 76)) a3 d3 nc) := ⟨i1.below hA, i2.below hA, i3.below hA⟩; have J : Hid (From (V.heap.size + 1 + 1) a1 ∧ From (V.heap.size + 1 + 1) a2 ∧ From (V.heap.size + 1 + 1) a3) := ⟨j1.mono hlo, j2.mono hlo, j3.mono hlo⟩; have hN : V.heap.size + 1 + 1 ≤ w1.heap.size := (Nat.le_trans hlo hb.size); clear hb hA hlo e1 e2 e3 i1 i2 i3 j1 j2 j3)
     | (go_at_call 64; refine (cI _ a1 k1 d1 E.out.1 I.out.1).mono ?_; rintro y w2 ⟨rfl, hb⟩; replace HB := Below.tr HB hb; replace OV := Below.tr OV hb; replace BP := BP.below hb; replace BR := BR.below hb; replace BN := BN.below hb; replace WB := WB.below hb; clear r0 r1 r2 r3 f0 f1 f2 f3 p0 p1 p2 p3 n0 n1 n2 n3; obtain ⟨⟨p0, p1, p2, p3⟩, -⟩ := id BP; obtain ⟨⟨r0, r1, r2, r3⟩, f0, f1, f2, f3⟩ := id BR; obtain ⟨⟨n0, n1, n2, n3⟩, -⟩ := id BN; replace I : Hid (IsS w2 a1 d1 nk ∧ IsS w2 a2 d2 nv ∧ IsI w2 a3 d3 nc) := ⟨I.out.1.below hb, I.out.2.1.below hb, I.out.2.2.below hb⟩; clear hb))
    refine bodyPost_ret (v := .tuple #[.agg #[.bool false, .slice none 0 0, .slice none 0 0, .slice none 0 0], .int .i64 81]) (by simp [results, Tryz.results47, go_sem, r0, r1, r2, r3]) rfl ?_
    rw [hO1]
    exact visitC_none (WB.put (by omega) _ _ _ _) ((Only5.of_below OV).put hlt (by omega) _ _ _ _)
   | true =>
    have cI : ∀ U a1 k1 d1, k1 = nk.length → IsS U a1 d1 nk → Calls Tryz.prog 64 #[.agg #[.int .i64 block, .int .i64 d, .string low, .string high], .slice a1 k1 d1] U fun e w' => e = .returned (.bool true) ∧ Below U.heap.size U w' := fun U a1 k1 d1 h1 h2 => by have := cI0 U a1 k1 d1 h1 h2; rw [hwi] at this; exact this
    cases nl with
    | false =>
     have hO1 : O = some (false, nk, nv, nc) := by rw [hO2, if_pos ⟨hwi, fun e => by cases e⟩]
     clear cI0 hwi hO2
     go_enter Tryz.func47, Tryz.ntmps47
     go_wp2_with (first
      | (go_at_call 63; rw [← hW]; refine (cL _ HB WB.1).mono ?_; rintro y w1 ⟨k1, a1, d1, k2, a2, d2, k3, a3, d3, rfl, e1, e2, e3, i1, i2, i3, j1, j2, j3, hb⟩; have hA : Below w1.heap.size w1 (w1.alloc (.cells #[.bool false, .slice a1 k1 d1, .slice a2 k2 d2, .slice a3 k3 d3] 76)) := (Below.refl _ _).alloc (Nat.le_refl _) _; have BN := box4_new w1 (.bool false) (.slice a1 k1 d1) (.slice a2 k2 d2) (.slice a3 k3 d3) 76 rfl; have hlo : V.heap.size + 1 + 1 ≤ W.heap.size := (by rw [hW]; simp); replace HB := Below.tr (Below.tr HB hb) hA; replace OV := Below.tr (Below.tr OV hb) hA; replace BP := (BP.below hb).below hA; replace BR := (BR.below hb).below hA; replace WB := (WB.below hb).below hA; clear r0 r1 r2 r3 f0 f1 f2 f3 p0 p1 p2 p3; obtain ⟨⟨p0, p1, p2, p3⟩, -⟩ := id BP; obtain ⟨⟨r0, r1, r2, r3⟩, f0, f1, f2, f3⟩ := id BR; obtain ⟨⟨n0, n1, n2, n3⟩, -⟩ := id BN; have E : Hid (k1 = nk.length ∧ k2 = nv.length ∧ k3 = nc.length) := ⟨e1, e2, e3⟩; have I : Hid (IsS (w1.alloc (.cells #[.bool false, .slice a1 k1 d1, .slice a2 k2 d2, .slice a3 k3 d3] 76)) a1 d1 nk ∧ IsS (w1.alloc (.cells #[.bool false, .slice a1 k1 d1, .slice a2 k2 d2, .slice a3 k3 d3] 76)) a2 d2 nv ∧ IsI (w1.alloc (.cells #[.bool false, .slice a1 k1 d1, .slice a2 k2 d2, .slice a3 k3 d3] 76)) a3 d3 nc) := ⟨i1.below hA, i2.below hA, i3.below hA⟩; have J : Hid (From (V.heap.size + 1 + 1) a1 ∧ From (V.heap.size + 1 + 1) a2 ∧ From (V.heap.size + 1 + 1) a3) := ⟨j1.mono hlo, j2.mono hlo, j3.mono hlo⟩; have hN : V.heap.size + 1 + 1 ≤ w1.heap.size := (Nat.le_trans hlo hb.size); clear hb hA hlo e1 e2 e3 i1 i2 i3 j1 j2 j3)
      | (go_at_call 64; refine (cI _ a1 k1 d1 E.out.1 I.out.1).mono ?_; rintro y w2 ⟨rfl, hb⟩; replace HB := Below.tr HB hb; replace OV := Below.tr OV hb; replace BP := BP.below hb; replace BR := BR.below hb; replace BN := BN.below hb; replace WB := WB.below hb; clear r0 r1 r2 r3 f0 f1 f2 f3 p0 p1 p2 p3 n0 n1 n2 n3; obtain ⟨⟨p0, p1, p2, p3⟩, -⟩ := id BP; obtain ⟨⟨r0, r1, r2, r3⟩, f0, f1, f2, f3⟩ := id BR; obtain ⟨⟨n0, n1, n2, n3⟩, -⟩ := id BN; replace I : Hid (IsS w2 a1 d1 nk ∧ IsS w2 a2 d2 nv ∧ IsI w2 a3 d3 nc) := ⟨I.out.1.below hb, I.out.2.1.below hb, I.out.2.2.below hb⟩; clear hb))
     have T4 := turns_put4 w2 (V.heap.size + 1) (.bool false) (.slice a1 k1 d1) (.slice a2 k2 d2) (.slice a3 k3 d3)
     obtain ⟨j1, j2, j3⟩ := J.out
     refine bodyPost_ret (v := .tuple #[.agg #[.bool false, .slice a1 k1 d1, .slice a2 k2 d2, .slice a3 k3 d3], .int .i64 0]) (by simp [results, Tryz.results47, go_sem, r0, r1, r2, r3]) rfl ?_
     rw [hO1]
     refine ⟨k1, a1, d1, k2, a2, d2, k3, a3, d3, rfl, E.out.1, E.out.2.1, E.out.2.2, I.out.1.turns T4 (fun x hx e => by have := j1 x hx; omega), I.out.2.1.turns T4 (fun x hx e => by have := j2 x hx; omega), I.out.2.2.turns T4 (fun x hx e => by have := j3 x hx; omega), j1.mono (by omega), j2.mono (by omega), j3.mono (by omega), WB.put (by omega) _ _ _ _, (Only5.of_below OV).put hlt (by omega) _ _ _ _⟩
    | true =>
     by_cases hlv : lv = 0 ∨ lv = d
     ·
      have hO1 : O = some (true, nk, nv, nc) := by rw [hO2, if_pos ⟨hwi, fun _ => hlv⟩]
      have hlv' : decide (lv = 0 ∨ lv = d) = true := decide_eq_true hlv
      have cV : ∀ U, WalkBox U h (.slice a n c) (.slice a' n' c') (.slice b p f) (.int .i64 root) (.int .i64 gen) lv → Calls Tryz.prog 65 #[.pointer (some ⟨h, 0, none⟩), .int .i64 d] U fun e w' => e = .returned (.bool true) ∧ levelW U h lv d = w' := fun U hU => by have := level_any U h _ _ _ _ _ lv d hU; rw [hlv'] at this; exact this
      have hll : (if lv = 0 then d else lv) = d := by rcases hlv with e | e <;> simp [e]
      have HL : Hid ((if lv = 0 then d else lv) = d) := hll
      clear cI0 hwi hO2 hlv hlv' hll
      go_enter Tryz.func47, Tryz.ntmps47
      go_wp2_with (first
       | (go_at_call 63; rw [← hW]; refine (cL _ HB WB.1).mono ?_; rintro y w1 ⟨k1, a1, d1, k2, a2, d2, k3, a3, d3, rfl, e1, e2, e3, i1, i2, i3, j1, j2, j3, hb⟩; have hA : Below w1.heap.size w1 (w1.alloc (.cells #[.bool true, .slice a1 k1 d1, .slice a2 k2 d2, .slice a3 k3 d3] 76)) := (Below.refl _ _).alloc (Nat.le_refl _) _; have BN := box4_new w1 (.bool true) (.slice a1 k1 d1) (.slice a2 k2 d2) (.slice a3 k3 d3) 76 rfl; have hlo : V.heap.size + 1 + 1 ≤ W.heap.size := (by rw [hW]; simp); replace HB := Below.tr (Below.tr HB hb) hA; replace OV := Below.tr (Below.tr OV hb) hA; replace BP := (BP.below hb).below hA; replace BR := (BR.below hb).below hA; replace WB := (WB.below hb).below hA; clear r0 r1 r2 r3 f0 f1 f2 f3 p0 p1 p2 p3; obtain ⟨⟨p0, p1, p2, p3⟩, -⟩ := id BP; obtain ⟨⟨r0, r1, r2, r3⟩, f0, f1, f2, f3⟩ := id BR; obtain ⟨⟨n0, n1, n2, n3⟩, -⟩ := id BN; have E : Hid (k1 = nk.length ∧ k2 = nv.length ∧ k3 = nc.length) := ⟨e1, e2, e3⟩; have I : Hid (IsS (w1.alloc (.cells #[.bool true, .slice a1 k1 d1, .slice a2 k2 d2, .slice a3 k3 d3] 76)) a1 d1 nk ∧ IsS (w1.alloc (.cells #[.bool true, .slice a1 k1 d1, .slice a2 k2 d2, .slice a3 k3 d3] 76)) a2 d2 nv ∧ IsI (w1.alloc (.cells #[.bool true, .slice a1 k1 d1, .slice a2 k2 d2, .slice a3 k3 d3] 76)) a3 d3 nc) := ⟨i1.below hA, i2.below hA, i3.below hA⟩; have J : Hid (From (V.heap.size + 1 + 1) a1 ∧ From (V.heap.size + 1 + 1) a2 ∧ From (V.heap.size + 1 + 1) a3) := ⟨j1.mono hlo, j2.mono hlo, j3.mono hlo⟩; have hN : V.heap.size + 1 + 1 ≤ w1.heap.size := (Nat.le_trans hlo hb.size); clear hb hA hlo e1 e2 e3 i1 i2 i3 j1 j2 j3)
       | (go_at_call 64; refine (cI _ a1 k1 d1 E.out.1 I.out.1).mono ?_; rintro y w2 ⟨rfl, hb⟩; replace HB := Below.tr HB hb; replace OV := Below.tr OV hb; replace BP := BP.below hb; replace BR := BR.below hb; replace BN := BN.below hb; replace WB := WB.below hb; clear r0 r1 r2 r3 f0 f1 f2 f3 p0 p1 p2 p3 n0 n1 n2 n3; obtain ⟨⟨p0, p1, p2, p3⟩, -⟩ := id BP; obtain ⟨⟨r0, r1, r2, r3⟩, f0, f1, f2, f3⟩ := id BR; obtain ⟨⟨n0, n1, n2, n3⟩, -⟩ := id BN; replace I : Hid (IsS w2 a1 d1 nk ∧ IsS w2 a2 d2 nv ∧ IsI w2 a3 d3 nc) := ⟨I.out.1.below hb, I.out.2.1.below hb, I.out.2.2.below hb⟩; clear hb)
       | (go_at_call 65; refine (cV _ WB).mono ?_; rintro y w3 ⟨rfl, hw3⟩; have T : Only5 h w2 w3 := (by rw [← hw3]; exact only5_level _ _ _); replace WB : WalkBox w3 h (.slice a n c) (.slice a' n' c') (.slice b p f) (.int .i64 root) (.int .i64 gen) (if lv = 0 then d else lv) := (by rw [← hw3]; exact WB.level d); replace BR := BR.turns T.t (by omega); replace BN := BN.turns T.t (by omega); clear r0 r1 r2 r3 f0 f1 f2 f3 p0 p1 p2 p3 n0 n1 n2 n3 hw3; obtain ⟨⟨r0, r1, r2, r3⟩, f0, f1, f2, f3⟩ := id BR; obtain ⟨⟨n0, n1, n2, n3⟩, -⟩ := id BN; replace I : Hid (IsS w3 a1 d1 nk ∧ IsS w3 a2 d2 nv ∧ IsI w3 a3 d3 nc) := ⟨I.out.1.turns T.t (fun x hx e => by have := J.out.1 x hx; omega), I.out.2.1.turns T.t (fun x hx e => by have := J.out.2.1 x hx; omega), I.out.2.2.turns T.t (fun x hx e => by have := J.out.2.2 x hx; omega)⟩))
      have T4 := turns_put4 w3 (V.heap.size + 1) (.bool true) (.slice a1 k1 d1) (.slice a2 k2 d2) (.slice a3 k3 d3)
      obtain ⟨j1, j2, j3⟩ := J.out
      rw [HL.out] at WB
      have OT := (Only5.of_below OV).low T (fun i v hc => ⟨v, cell_below OV hc⟩)
      refine bodyPost_ret (v := .tuple #[.agg #[.bool true, .slice a1 k1 d1, .slice a2 k2 d2, .slice a3 k3 d3], .int .i64 0]) (by simp [results, Tryz.results47, go_sem, r0, r1, r2, r3]) rfl ?_
      rw [hO1]
      refine ⟨k1, a1, d1, k2, a2, d2, k3, a3, d3, rfl, E.out.1, E.out.2.1, E.out.2.2, I.out.1.turns T4 (fun x hx e => by have := j1 x hx; omega), I.out.2.1.turns T4 (fun x hx e => by have := j2 x hx; omega), I.out.2.2.turns T4 (fun x hx e => by have := j3 x hx; omega), j1.mono (by omega), j2.mono (by omega), j3.mono (by omega), WB.put (by omega) _ _ _ _, OT.put hlt (by omega) _ _ _ _⟩
     ·
      have hO1 : O = none := by rw [hO2, if_neg (fun e => hlv (e.2 rfl))]
      have hlv' : decide (lv = 0 ∨ lv = d) = false := decide_eq_false hlv
      have cV : ∀ U, WalkBox U h (.slice a n c) (.slice a' n' c') (.slice b p f) (.int .i64 root) (.int .i64 gen) lv → Calls Tryz.prog 65 #[.pointer (some ⟨h, 0, none⟩), .int .i64 d] U fun e w' => e = .returned (.bool false) ∧ levelW U h lv d = w' := fun U hU => by have := level_any U h _ _ _ _ _ lv d hU; rw [hlv'] at this; exact this
      have HL : Hid ((if lv = 0 then d else lv) = lv) := if_neg (fun e => hlv (.inl e))
      clear cI0 hwi hO2 hlv hlv'
      go_enter Tryz.func47, Tryz.ntmps47
      go_wp2_with (first
       | (go_at_call 63; rw [← hW]; refine (cL _ HB WB.1).mono ?_; rintro y w1 ⟨k1, a1, d1, k2, a2, d2, k3, a3, d3, rfl, e1, e2, e3, i1, i2, i3, j1, j2, j3, hb⟩; have hA : Below w1.heap.size w1 (w1.alloc (.cells #[.bool true, .slice a1 k1 d1, .slice a2 k2 d2, .slice a3 k3 d3] 76)) := (Below.refl _ _).alloc (Nat.le_refl _) _; have BN := box4_new w1 (.bool true) (.slice a1 k1 d1) (.slice a2 k2 d2) (.slice a3 k3 d3) 76 rfl; have hlo : V.heap.size + 1 + 1 ≤ W.heap.size := (by rw [hW]; simp); replace HB := Below.tr (Below.tr HB hb) hA; replace OV := Below.tr (Below.tr OV hb) hA; replace BP := (BP.below hb).below hA; replace BR := (BR.below hb).below hA; replace WB := (WB.below hb).below hA; clear r0 r1 r2 r3 f0 f1 f2 f3 p0 p1 p2 p3; obtain ⟨⟨p0, p1, p2, p3⟩, -⟩ := id BP; obtain ⟨⟨r0, r1, r2, r3⟩, f0, f1, f2, f3⟩ := id BR; obtain ⟨⟨n0, n1, n2, n3⟩, -⟩ := id BN; have E : Hid (k1 = nk.length ∧ k2 = nv.length ∧ k3 = nc.length) := ⟨e1, e2, e3⟩; have I : Hid (IsS (w1.alloc (.cells #[.bool true, .slice a1 k1 d1, .slice a2 k2 d2, .slice a3 k3 d3] 76)) a1 d1 nk ∧ IsS (w1.alloc (.cells #[.bool true, .slice a1 k1 d1, .slice a2 k2 d2, .slice a3 k3 d3] 76)) a2 d2 nv ∧ IsI (w1.alloc (.cells #[.bool true, .slice a1 k1 d1, .slice a2 k2 d2, .slice a3 k3 d3] 76)) a3 d3 nc) := ⟨i1.below hA, i2.below hA, i3.below hA⟩; have J : Hid (From (V.heap.size + 1 + 1) a1 ∧ From (V.heap.size + 1 + 1) a2 ∧ From (V.heap.size + 1 + 1) a3) := ⟨j1.mono hlo, j2.mono hlo, j3.mono hlo⟩; have hN : V.heap.size + 1 + 1 ≤ w1.heap.size := (Nat.le_trans hlo hb.size); clear hb hA hlo e1 e2 e3 i1 i2 i3 j1 j2 j3)
       | (go_at_call 64; refine (cI _ a1 k1 d1 E.out.1 I.out.1).mono ?_; rintro y w2 ⟨rfl, hb⟩; replace HB := Below.tr HB hb; replace OV := Below.tr OV hb; replace BP := BP.below hb; replace BR := BR.below hb; replace BN := BN.below hb; replace WB := WB.below hb; clear r0 r1 r2 r3 f0 f1 f2 f3 p0 p1 p2 p3 n0 n1 n2 n3; obtain ⟨⟨p0, p1, p2, p3⟩, -⟩ := id BP; obtain ⟨⟨r0, r1, r2, r3⟩, f0, f1, f2, f3⟩ := id BR; obtain ⟨⟨n0, n1, n2, n3⟩, -⟩ := id BN; replace I : Hid (IsS w2 a1 d1 nk ∧ IsS w2 a2 d2 nv ∧ IsI w2 a3 d3 nc) := ⟨I.out.1.below hb, I.out.2.1.below hb, I.out.2.2.below hb⟩; clear hb)
       | (go_at_call 65; refine (cV _ WB).mono ?_; rintro y w3 ⟨rfl, hw3⟩; have T : Only5 h w2 w3 := (by rw [← hw3]; exact only5_level _ _ _); replace WB : WalkBox w3 h (.slice a n c) (.slice a' n' c') (.slice b p f) (.int .i64 root) (.int .i64 gen) (if lv = 0 then d else lv) := (by rw [← hw3]; exact WB.level d); replace BR := BR.turns T.t (by omega); replace BN := BN.turns T.t (by omega); clear r0 r1 r2 r3 f0 f1 f2 f3 p0 p1 p2 p3 n0 n1 n2 n3 hw3; obtain ⟨⟨r0, r1, r2, r3⟩, f0, f1, f2, f3⟩ := id BR; obtain ⟨⟨n0, n1, n2, n3⟩, -⟩ := id BN; replace I : Hid (IsS w3 a1 d1 nk ∧ IsS w3 a2 d2 nv ∧ IsI w3 a3 d3 nc) := ⟨I.out.1.turns T.t (fun x hx e => by have := J.out.1 x hx; omega), I.out.2.1.turns T.t (fun x hx e => by have := J.out.2.1 x hx; omega), I.out.2.2.turns T.t (fun x hx e => by have := J.out.2.2 x hx; omega)⟩))
      rw [HL.out] at WB
      have OT := (Only5.of_below OV).low T (fun i v hc => ⟨v, cell_below OV hc⟩)
      refine bodyPost_ret (v := .tuple #[.agg #[.bool false, .slice none 0 0, .slice none 0 0, .slice none 0 0], .int .i64 81]) (by simp [results, Tryz.results47, go_sem, r0, r1, r2, r3]) rfl ?_
      rw [hO1]
      exact visitC_none (WB.put (by omega) _ _ _ _) (OT.put hlt (by omega) _ _ _ _)
end Go.Proofs.YtaecfbfcjaailaaGreat
namespace Go.Proofs.YtaecfbfcjaailaaGreat
open Go.RowKit Plain Anylast
set_option linter.unusedVariables false
end Go.Proofs.YtaecfbfcjaailaaGreat
namespace Go.Proofs.YtaecfbfcjaailaaGreat
open Go.RowKit Plain
set_option linter.unusedVariables false
theorem tree_sized {ns : List Bool} {ps : List ByteArray} {root gen : Int} : ∀ q ∈ (treeS ns ps root gen).pairs, q.1.size ≤ maxLen ∧ q.2.size ≤ maxLen := by
 unfold treeS
 split
 ·
  intro q hq; simp [TreeS.none] at hq
 ·
  refine pairs_all (P := fun q => q.1.size ≤ maxLen ∧ q.2.size ≤ maxLen) (fun b r n hn hl q hq => ?_) 8 TreeS.none root ⟨#[]⟩ ⟨#[]⟩ (fun q hq => by simp [TreeS.none] at hq)
  have hs := (rightN_iff.1 (holds_right hn)).1
  obtain ⟨_, hk, _, hv, _, _⟩ := standsN_iff.1 hs
  have h1 := (hk _ (List.of_mem_zip hq).1).2
  have h2 := hv _ (List.of_mem_zip hq).2
  exact ⟨Nat.le_trans h1 (by decide), Nat.le_trans h2 (by decide)⟩
end Go.Proofs.YtaecfbfcjaailaaGreat
namespace Go.Proofs.YtaecfbfcjaailaaGreat
open Go.RowKit Plain Anylast
set_option linter.unusedVariables false
set_option maxRecDepth 20000 in
set_option maxHeartbeats 1000000 in
theorem value_any (a a' a'' : Option Addr) (c c' c'' n n' n'' : Nat) (ks vs : List ByteArray) (cs : List Int) (key : ByteArray) (w : World) (hn : n = ks.length) (hn' : n' = vs.length) (hn'' : n'' = cs.length) (hK : IsS w a c ks) (hV : IsS w a' c' vs) (hC : IsI w a'' c'' cs) (hst : standsN true ks vs cs = true) :
  Calls Tryz.prog 48 #[.agg #[.bool true, .slice a n c, .slice a' n' c', .slice a'' n'' c''], .string key] w fun e w' => e = .returned (.tuple #[.string (getP (ks.zip vs) key).1, .int .i64 (getP (ks.zip vs) key).2]) ∧ Below w.heap.size w w' := by
 obtain ⟨W, hW⟩ : ∃ W, W = w.alloc (.cells #[.bool true, .slice a n c, .slice a' n' c', .slice a'' n'' c''] 76) := ⟨_, rfl⟩
 have HB : Below w.heap.size w W := by rw [hW]; exact (Below.refl _ _).alloc (Nat.le_refl _) _
 have BN : Box4 W w.heap.size (.bool true) (.slice a n c) (.slice a' n' c') (.slice a'' n'' c'') := by rw [hW]; exact box4_new _ _ _ _ _ _ rfl
 have cF := nodeFind_any true a a' a'' c c' c'' n n' n'' ks vs cs key W hn hn' hn'' (hK.below HB) (hV.below HB) (hC.below HB)
 have e1 : findR true ks vs cs key = (findN key ks : Nat) := by unfold findR; rw [if_pos hst]
 have e2 : findI true ks vs cs key = isN ks key := by unfold findI; rw [hst]; rfl
 rw [e1, e2] at cF
 obtain ⟨_, _, hr, _, _, hsh⟩ := standsN_iff.1 hst
 have hlen : vs.length = ks.length := (shape_leaf.1 hsh).1
 have hg := leaf_get hr hlen key
 obtain ⟨⟨v, e⟩, hve⟩ : ∃ x, x = getP (ks.zip vs) key := ⟨_, rfl⟩
 rw [← hve] at hg ⊢
 have mn' : n' ≤ 9223372036854775807 := by rw [hn']; exact Nat.le_trans hV.1 hV.2.1
 obtain ⟨⟨x0, x1, x2, x3⟩, -⟩ := id (hW ▸ BN)
 obtain ⟨i, hi⟩ : ∃ i, i = findN key ks := ⟨_, rfl⟩
 rw [← hi] at cF hg
 cases his : isN ks key with
 | false =>
  rw [his] at cF hg
  rw [if_neg (by decide)] at hg
  obtain ⟨rfl, rfl⟩ := Prod.mk.inj hg
  clear hn hn' hn'' hK hV hC hst hr hsh hlen hve e1 e2 hi his hg
  go_enter Tryz.func48, Tryz.ntmps48
  go_wp2_with (go_at_call 66; rw [← hW]; refine cF.mono ?_; rintro y w1 ⟨rfl, hb⟩; replace HB := Below.tr HB hb; clear x0 x1 x2 x3)
  go_ret2
  exact ⟨rfl, HB⟩
 | true =>
  have hik := (List.getElem?_eq_some_iff.1 (isN_iff.1 his)).1
  rw [his] at cF hg
  rw [if_pos rfl] at hg
  obtain ⟨u, hu⟩ : ∃ u, vs[i]? = some u := ⟨_, List.getElem?_eq_getElem (by omega)⟩
  rw [getD_some hu] at hg
  obtain ⟨rfl, rfl⟩ := Prod.mk.inj hg
  obtain ⟨b, o, rfl, -, hc, -⟩ := hV.2.2 i v hu
  have z := cell_below HB hc
  have hi' : (i : Int) < n' := by omega
  clear hn hn' hn'' hK hV hC hst hr hsh hlen hve e1 e2 hi his hg hik hu hc
  go_enter Tryz.func48, Tryz.ntmps48
  go_wp2_with (go_at_call 66; rw [← hW]; refine cF.mono ?_; rintro y w1 ⟨rfl, hb⟩; replace HB := Below.tr HB hb; replace BN := BN.below hb; replace z := cell_below hb z; clear x0 x1 x2 x3; obtain ⟨⟨x0, x1, x2, x3⟩, -⟩ := id BN)
  go_ret2
  exact ⟨rfl, HB⟩
def depthLeft (g : Nat) (V : World) : Nat := match V.cell? ⟨g, 1, none⟩ with
 | some v => (9 - intOf v).toNat
 | none => 0
theorem depthLeft_at {g : Nat} {V : World} {d : Int} (h : V.cell? ⟨g, 1, none⟩ = some (.int .i64 d)) : depthLeft g V = (9 - d).toNat := by unfold depthLeft; rw [h]; rfl
def downV (block d : Int) (low high : ByteArray) (a1 : Option Addr) (k1 d1 : Nat) (a2 : Option Addr) (k2 d2 : Nat) (a3 : Option Addr) (k3 d3 : Nat) (key : ByteArray) (i : Nat) (block' d' : Int) (low' high' : ByteArray) : Nat → Value
 | 0 => .agg #[.int .i64 block, .int .i64 d, .string low, .string high]
 | 1 => .agg #[.bool false, .slice a1 k1 d1, .slice a2 k2 d2, .slice a3 k3 d3]
 | 2 => .agg #[.bool false, .slice a1 k1 d1, .slice a2 k2 d2, .slice a3 k3 d3]
 | 3 => .string key
 | 4 => .int .i64 i
 | 5 => .agg #[.int .i64 block', .int .i64 d', .string low', .string high']
 | _ => undef
set_option maxRecDepth 20000 in
set_option maxHeartbeats 4000000 in
theorem find_any (w V : World) (h : Nat) (a a' b : Option Addr) (n c n' c' p f : Nat) (ns : List Bool) (ps : List ByteArray) (root gen : Int) (key : ByteArray) (hn' : n' = ns.length) (hp : p = ps.length) (hpn : p = n') (hV : Below w.heap.size w V) (hwh : w.heap.size ≤ h) (hB' : IsB w a' c' ns) (hP : IsS w b f ps)
  (WB : WalkBox V h (.slice a n c) (.slice a' n' c') (.slice b p f) (.int .i64 root) (.int .i64 gen) 0) :
  Calls Tryz.prog 31 #[.pointer (some ⟨h, 0, none⟩), .string key] V fun x V' => x = .returned (.tuple #[.string (findS (holdsS ns ps gen) key 8 root ⟨#[]⟩ ⟨#[]⟩).1, .int .i64 (findS (holdsS ns ps gen) key 8 root ⟨#[]⟩ ⟨#[]⟩).2]) ∧ Below w.heap.size w V' := by
 have hlt : h < V.heap.size := cell_lt WB.2.1
 have cT := top_any V h _ _ _ _ root WB.1
 have cV : ∀ U block d low high (k : Nat), Below w.heap.size w U → k ≤ 8 → d = 9 - (k : Int) → WalkBox U h (.slice a n c) (.slice a' n' c') (.slice b p f) (.int .i64 root) (.int .i64 gen) 0 → Calls Tryz.prog 47 #[.pointer (some ⟨h, 0, none⟩), .agg #[.int .i64 block, .int .i64 d, .string low, .string high]] U fun x V' => VisitC U h (.slice a n c) (.slice a' n' c') (.slice b p f) (.int .i64 root) (.int .i64 gen) x V' (levelO (visitS (holdsS ns ps gen) 0 k block low high) 0 d) (nodeO (visitS (holdsS ns ps gen) 0 k block low high)) (errO (visitS (holdsS ns ps gen) 0 k block low high)) := fun U block d low high k hU hk hd hW => visit_any w U h a a' b n c n' c' p f ns ps root gen block d low high k 0 hn' hp hpn hU hB' hP hk hd hW
 have stands : ∀ k block low high nd, visitS (holdsS ns ps gen) 0 (k + 1) block low high = some nd → standsN nd.1 nd.2.1 nd.2.2.1 nd.2.2.2 = true := fun k block low high nd hh => (rightN_iff.1 (holds_right (visitS_some hh).1)).1
 have HS : Hid (∀ k block low high nd, visitS (holdsS ns ps gen) 0 (k + 1) block low high = some nd → standsN nd.1 nd.2.1 nd.2.2.1 nd.2.2.2 = true) := stands
 obtain ⟨H, hH⟩ : ∃ H, H = holdsS ns ps gen := ⟨_, rfl⟩
 rw [← hH] at cV HS ⊢
 obtain ⟨⟨v, e⟩, hve⟩ : ∃ x, x = findS H key 8 root ⟨#[]⟩ ⟨#[]⟩ := ⟨_, rfl⟩
 rw [← hve]
 have VE : Hid ((v, e) = findS H key 8 root ⟨#[]⟩ ⟨#[]⟩) := hve
 clear hve hH stands hB' hP hn' hp hpn
 have HB : Below w.heap.size w V := hV
 clear hV
 go_enter Tryz.func31, Tryz.ntmps31
 go_wp2_with (go_at_call 46; refine cT.mono ?_; rintro y w1 ⟨rfl, hb⟩; have hA : Below w1.heap.size w1 (w1.alloc (.cells #[.int .i64 root, .int .i64 1, .string ⟨#[]⟩, .string ⟨#[]⟩] 89)) := (Below.refl _ _).alloc (Nat.le_refl _) _; have BP := box4_new w1 (.int .i64 root) (.int .i64 1) (.string ⟨#[]⟩) (.string ⟨#[]⟩) 89 rfl; replace WB := (WB.below hb).below hA; replace HB := Below.tr (Below.tr HB hb) hA; have hgh : h < w1.heap.size := (Nat.lt_of_lt_of_le hlt hb.size); clear hb hA)
 go_loopw [] (fun wr => ∃ (k : Nat) (block : Int) (low high : ByteArray), k ≤ 8 ∧ (v, e) = findS H key k block low high ∧ Box4 wr w1.heap.size (.int .i64 block) (.int .i64 (9 - (k : Int))) (.string low) (.string high) ∧ WalkBox wr h (.slice a n c) (.slice a' n' c') (.slice b p f) (.int .i64 root) (.int .i64 gen) 0 ∧ Below w.heap.size w wr) (fun wr => depthLeft w1.heap.size wr)
 case atStart => exact ⟨8, root, ⟨#[]⟩, ⟨#[]⟩, Nat.le_refl _, VE.out, BP, WB, HB⟩
 case round =>
  obtain ⟨k, block, low, high, hk, hve, BP, WB, HB⟩ := hrel
  have VE2 : Hid ((v, e) = findS H key k block low high) := hve
  clear hve VE
  have hg1 : Hid (w1.heap.size < wr.heap.size) := BP.lt
  obtain ⟨d, hd⟩ : ∃ d, d = 9 - (k : Int) := ⟨_, rfl⟩
  rw [← hd] at BP
  have HD : Hid (d = 9 - (k : Int)) := hd
  have HK : Hid (k ≤ 8) := hk
  have hm0 : Hid (depthLeft w1.heap.size wr = k) := by show _ = _; rw [depthLeft_at BP.1.2.1, hd]; omega
  obtain ⟨O, hO⟩ : ∃ O, O = visitS H 0 k block low high := ⟨_, rfl⟩
  have cv0 := fun U hU hW => cV U block d low high k hU hk hd hW
  rw [← hO] at cv0
  obtain ⟨⟨p0, p1, p2, p3⟩, -⟩ := id BP
  clear cV hd hk
  cases O with
  | none =>
   have hf : (v, e) = (⟨#[]⟩, 81) := by
    rw [VE2.out]
    cases k with
    | zero => rfl
    | succ k => rw [findS, ← hO]
   obtain ⟨rfl, rfl⟩ := Prod.mk.inj hf
   obtain ⟨⟨ks, vs, cs⟩, hks⟩ : ∃ x : List ByteArray × List ByteArray × List Int, x = ([], [], []) := ⟨_, rfl⟩
   have cv : ∀ U, Below w.heap.size w U → WalkBox U h (.slice a n c) (.slice a' n' c') (.slice b p f) (.int .i64 root) (.int .i64 gen) 0 → Calls Tryz.prog 47 #[.pointer (some ⟨h, 0, none⟩), .agg #[.int .i64 block, .int .i64 d, .string low, .string high]] U fun x V' => VisitC U h (.slice a n c) (.slice a' n' c') (.slice b p f) (.int .i64 root) (.int .i64 gen) x V' 0 (false, ks, vs, cs) 81 := fun U hU hW => by have := cv0 U hU hW; rw [hks]; exact this
   clear cv0 hf hO VE2 hks HD HK
   go_wp2_with (go_at_call 47; refine (cv _ HB WB).mono ?_; rintro y w2 ⟨k1, a1, d1, k2, a2, d2, k3, a3, d3, rfl, e1, e2, e3, i1, i2, i3, j1, j2, j3, WB2, O5⟩; have hA : Below w2.heap.size w2 (w2.alloc (.cells #[.bool false, .slice a1 k1 d1, .slice a2 k2 d2, .slice a3 k3 d3] 76)) := (Below.refl _ _).alloc (Nat.le_refl _) _; have BN := box4_new w2 (.bool false) (.slice a1 k1 d1) (.slice a2 k2 d2) (.slice a3 k3 d3) 76 rfl; replace HB := Below.tr (Below.turns HB O5.t (fun i hi => by omega)) hA; replace BP := (BP.turns O5.t (by omega)).below hA; replace WB := WB2.below hA; clear p0 p1 p2 p3; obtain ⟨⟨p0, p1, p2, p3⟩, pf0, pf1, pf2, pf3⟩ := id BP; obtain ⟨⟨n0, n1, n2, n3⟩, -⟩ := id BN; have E : Hid (k1 = ks.length ∧ k2 = vs.length ∧ k3 = cs.length) := ⟨e1, e2, e3⟩; have I : Hid (IsS (w2.alloc (.cells #[.bool false, .slice a1 k1 d1, .slice a2 k2 d2, .slice a3 k3 d3] 76)) a1 d1 ks ∧ IsS (w2.alloc (.cells #[.bool false, .slice a1 k1 d1, .slice a2 k2 d2, .slice a3 k3 d3] 76)) a2 d2 vs ∧ IsI (w2.alloc (.cells #[.bool false, .slice a1 k1 d1, .slice a2 k2 d2, .slice a3 k3 d3] 76)) a3 d3 cs) := ⟨i1.below hA, i2.below hA, i3.below hA⟩; have hgw : w1.heap.size < w2.heap.size := (by have := BP.lt; simp at this; have h2 := O5.t.size; have h3 := hg1.out; omega); clear WB2 O5 hA e1 e2 e3 i1 i2 i3 j1 j2 j3)
   go_ret2
   exact ⟨rfl, HB⟩
  | some nd =>
   obtain ⟨l, ks, vs, cs⟩ := nd
   cases k with
   | zero => cases hO
   | succ k =>
    have hst : standsN l ks vs cs = true := HS.out _ _ _ _ _ hO.symm
    have VE3 : (v, e) = if l = true then getP (ks.zip vs) key else findS H key k (cs.getD (kidN ks key) 0) (kidFrom low ks (kidN ks key)) (kidTo high ks (kidN ks key)) := by rw [VE2.out, findS, ← hO]
    clear VE2 hO
    cases l with
    | true =>
     replace VE3 : (v, e) = getP (ks.zip vs) key := VE3
     have cv : ∀ U, Below w.heap.size w U → WalkBox U h (.slice a n c) (.slice a' n' c') (.slice b p f) (.int .i64 root) (.int .i64 gen) 0 → Calls Tryz.prog 47 #[.pointer (some ⟨h, 0, none⟩), .agg #[.int .i64 block, .int .i64 d, .string low, .string high]] U fun x V' => VisitC U h (.slice a n c) (.slice a' n' c') (.slice b p f) (.int .i64 root) (.int .i64 gen) x V' d (true, ks, vs, cs) 0 := cv0
     have cX : ∀ U a1 d1 k1 a2 d2 k2 a3 d3 k3, k1 = ks.length → k2 = vs.length → k3 = cs.length → IsS U a1 d1 ks → IsS U a2 d2 vs → IsI U a3 d3 cs → Calls Tryz.prog 48 #[.agg #[.bool true, .slice a1 k1 d1, .slice a2 k2 d2, .slice a3 k3 d3], .string key] U fun x w' => x = .returned (.tuple #[.string v, .int .i64 e]) ∧ Below U.heap.size U w' := fun U a1 d1 k1 a2 d2 k2 a3 d3 k3 h1 h2 h3 i1 i2 i3 => by have := value_any a1 a2 a3 d1 d2 d3 k1 k2 k3 ks vs cs key U h1 h2 h3 i1 i2 i3 hst; rw [← VE3] at this; exact this
     clear cv0 VE3 hst HD HK
     go_wp2_with (first
      | (go_at_call 47; refine (cv _ HB WB).mono ?_; rintro y w2 ⟨k1, a1, d1, k2, a2, d2, k3, a3, d3, rfl, e1, e2, e3, i1, i2, i3, j1, j2, j3, WB2, O5⟩; have hA : Below w2.heap.size w2 (w2.alloc (.cells #[.bool true, .slice a1 k1 d1, .slice a2 k2 d2, .slice a3 k3 d3] 76)) := (Below.refl _ _).alloc (Nat.le_refl _) _; have BN := box4_new w2 (.bool true) (.slice a1 k1 d1) (.slice a2 k2 d2) (.slice a3 k3 d3) 76 rfl; replace HB := Below.tr (Below.turns HB O5.t (fun i hi => by omega)) hA; replace BP := (BP.turns O5.t (by omega)).below hA; replace WB := WB2.below hA; clear p0 p1 p2 p3; obtain ⟨⟨p0, p1, p2, p3⟩, pf0, pf1, pf2, pf3⟩ := id BP; obtain ⟨⟨n0, n1, n2, n3⟩, -⟩ := id BN; have E : Hid (k1 = ks.length ∧ k2 = vs.length ∧ k3 = cs.length) := ⟨e1, e2, e3⟩; have I : Hid (IsS (w2.alloc (.cells #[.bool true, .slice a1 k1 d1, .slice a2 k2 d2, .slice a3 k3 d3] 76)) a1 d1 ks ∧ IsS (w2.alloc (.cells #[.bool true, .slice a1 k1 d1, .slice a2 k2 d2, .slice a3 k3 d3] 76)) a2 d2 vs ∧ IsI (w2.alloc (.cells #[.bool true, .slice a1 k1 d1, .slice a2 k2 d2, .slice a3 k3 d3] 76)) a3 d3 cs) := ⟨i1.below hA, i2.below hA, i3.below hA⟩; have hgw : w1.heap.size < w2.heap.size := (by have := BP.lt; simp at this; have h2 := O5.t.size; have h3 := hg1.out; omega); clear WB2 O5 hA e1 e2 e3 i1 i2 i3 j1 j2 j3)
      | (go_at_call 48; refine (cX _ a1 d1 k1 a2 d2 k2 a3 d3 k3 E.out.1 E.out.2.1 E.out.2.2 I.out.1 I.out.2.1 I.out.2.2).mono ?_; rintro y w3 ⟨rfl, hb⟩; replace HB := Below.tr HB hb))
     go_ret2
     exact ⟨rfl, HB⟩
    | false =>
     replace VE3 : (v, e) = findS H key k (cs.getD (kidN ks key) 0) (kidFrom low ks (kidN ks key)) (kidTo high ks (kidN ks key)) := VE3
     have cv : ∀ U, Below w.heap.size w U → WalkBox U h (.slice a n c) (.slice a' n' c') (.slice b p f) (.int .i64 root) (.int .i64 gen) 0 → Calls Tryz.prog 47 #[.pointer (some ⟨h, 0, none⟩), .agg #[.int .i64 block, .int .i64 d, .string low, .string high]] U fun x V' => VisitC U h (.slice a n c) (.slice a' n' c') (.slice b p f) (.int .i64 root) (.int .i64 gen) x V' 0 (false, ks, vs, cs) 0 := cv0
     obtain ⟨i, hi⟩ : ∃ i, i = kidN ks key := ⟨_, rfl⟩
     have hsh := shape_inner.1 (standsN_iff.1 hst).2.2.2.2.2
     have hik : i < cs.length := by have := kidN_le ks key; omega
     obtain ⟨kb, hkb⟩ : ∃ x, cs[i]? = some x := ⟨_, List.getElem?_eq_getElem hik⟩
     have hkr : kidR false ks vs cs key = (i : Nat) := by unfold kidR; rw [if_pos ⟨hst, rfl⟩, hi]
     rw [← hi, getD_some hkb] at VE3
     have hd' : d + 1 = 9 - (k : Int) := by have := HD.out; omega
     have hdr : 0 ≤ d ∧ d ≤ 100 := by have := HD.out; have := HK.out; omega
     have cK : ∀ U a1 d1 k1 a2 d2 k2 a3 d3 k3, k1 = ks.length → k2 = vs.length → k3 = cs.length → IsS U a1 d1 ks → IsS U a2 d2 vs → IsI U a3 d3 cs → Calls Tryz.prog 50 #[.agg #[.bool false, .slice a1 k1 d1, .slice a2 k2 d2, .slice a3 k3 d3], .string key] U fun x w' => x = .returned (.int .i64 i) ∧ Below U.heap.size U w' := fun U a1 d1 k1 a2 d2 k2 a3 d3 k3 h1 h2 h3 i1 i2 i3 => by have := nodeKid_any false a1 a2 a3 d1 d2 d3 k1 k2 k3 ks vs cs key U h1 h2 h3 i1 i2 i3; rw [hkr] at this; exact this
     obtain ⟨x, hx⟩ : ∃ x, x = kidFrom low ks i := ⟨_, rfl⟩
     obtain ⟨z, hz⟩ : ∃ z, z = kidTo high ks i := ⟨_, rfl⟩
     have cD : ∀ U a1 d1 k1 a2 d2 k2 a3 d3 k3, k1 = ks.length → k3 = cs.length → IsS U a1 d1 ks → IsI U a3 d3 cs → Calls Tryz.prog 49 #[.agg #[.int .i64 block, .int .i64 d, .string low, .string high], .agg #[.bool false, .slice a1 k1 d1, .slice a2 k2 d2, .slice a3 k3 d3], .int .i64 i] U fun x' w' => x' = .returned (.agg #[.int .i64 kb, .int .i64 (9 - (k : Int)), .string x, .string z]) ∧ Below U.heap.size U w' := fun U a1 d1 k1 a2 d2 k2 a3 d3 k3 h1 h3 i1 i3 => by have := placeBelow_any block d low high false a1 a2 a3 k1 d1 k2 d2 k3 d3 ks vs cs i kb U h1 h3 i1 i3 hkb (by omega) hdr; rw [hd', ← hx, ← hz] at this; exact this
     rw [← hx, ← hz] at VE3
     have VE4 : Hid ((v, e) = findS H key k kb x z) := VE3
     clear cv0 VE3 hst hi hsh hik hkb hkr hd' hdr hx hz
     go_wp2_with (go_at_call 47; refine (cv _ HB WB).mono ?_; rintro y w2 ⟨k1, a1, d1, k2, a2, d2, k3, a3, d3, rfl, e1, e2, e3, i1, i2, i3, j1, j2, j3, WB2, O5⟩; have hA : Below w2.heap.size w2 (w2.alloc (.cells #[.bool false, .slice a1 k1 d1, .slice a2 k2 d2, .slice a3 k3 d3] 76)) := (Below.refl _ _).alloc (Nat.le_refl _) _; have BN := box4_new w2 (.bool false) (.slice a1 k1 d1) (.slice a2 k2 d2) (.slice a3 k3 d3) 76 rfl; replace HB := Below.tr (Below.turns HB O5.t (fun i hi => by omega)) hA; replace BP := (BP.turns O5.t (by omega)).below hA; replace WB := WB2.below hA; clear p0 p1 p2 p3; obtain ⟨⟨p0, p1, p2, p3⟩, pf0, pf1, pf2, pf3⟩ := id BP; obtain ⟨⟨n0, n1, n2, n3⟩, -⟩ := id BN; have E : Hid (k1 = ks.length ∧ k2 = vs.length ∧ k3 = cs.length) := ⟨e1, e2, e3⟩; have I : Hid (IsS (w2.alloc (.cells #[.bool false, .slice a1 k1 d1, .slice a2 k2 d2, .slice a3 k3 d3] 76)) a1 d1 ks ∧ IsS (w2.alloc (.cells #[.bool false, .slice a1 k1 d1, .slice a2 k2 d2, .slice a3 k3 d3] 76)) a2 d2 vs ∧ IsI (w2.alloc (.cells #[.bool false, .slice a1 k1 d1, .slice a2 k2 d2, .slice a3 k3 d3] 76)) a3 d3 cs) := ⟨i1.below hA, i2.below hA, i3.below hA⟩; have hgw : w1.heap.size < w2.heap.size := (by have := BP.lt; simp at this; have h2 := O5.t.size; have h3 := hg1.out; omega); clear WB2 O5 hA e1 e2 e3 i1 i2 i3 j1 j2 j3)
     have hU := (Below.refl (w2.alloc (.cells #[.bool false, .slice a1 k1 d1, .slice a2 k2 d2, .slice a3 k3 d3] 76)).heap.size (w2.alloc (.cells #[.bool false, .slice a1 k1 d1, .slice a2 k2 d2, .slice a3 k3 d3] 76))).drew
     refine region_vals (by kernel_rfl) 6 (downV block d low high a1 k1 d1 a2 k2 d2 a3 k3 d3 key i kb (9 - (k : Int)) x z)
      (fun X => Box4 X w1.heap.size (.int .i64 block) (.int .i64 d) (.string low) (.string high) ∧ Box4 X w2.heap.size (.bool false) (.slice a1 k1 d1) (.slice a2 k2 d2) (.slice a3 k3 d3) ∧ (IsS X a1 d1 ks ∧ IsS X a2 d2 vs ∧ IsI X a3 d3 cs) ∧ WalkBox X h (.slice a n c) (.slice a' n' c') (.slice b p f) (.int .i64 root) (.int .i64 gen) 0 ∧ Below w.heap.size w X)
      (fun X => Box4 X w1.heap.size (.int .i64 kb) (.int .i64 (9 - (k : Int))) (.string x) (.string z) ∧ WalkBox X h (.slice a n c) (.slice a' n' c') (.slice b p f) (.int .i64 root) (.int .i64 gen) 0 ∧ Below w.heap.size w X) (by kernel_rfl) (by kernel_rfl) ⟨BP.below hU, BN.below hU, ⟨I.out.1.below hU, I.out.2.1.below hU, I.out.2.2.below hU⟩, WB.below hU, Below.tr HB hU⟩ ?step 7 rfl ?done
     case step =>
      clear p0 p1 p2 p3 pf0 pf1 pf2 pf3 n0 n1 n2 n3 hU BP BN I WB HB
      intro j oo ho a9 X hS hdf hsz hdep hsame
      obtain ⟨BP, BN, I, WB, HB⟩ := id hS
      obtain ⟨⟨p0, p1, p2, p3⟩, pf0, pf1, pf2, pf3⟩ := id BP
      obtain ⟨⟨n0, n1, n2, n3⟩, -⟩ := id BN
      match j, ho with
      | 0, ho =>
       cases ho
       have h6 := hsame 6 rfl
       exact val_op rfl (wanted_free rfl) (by clear hdep hsame hsz hdf; simp only [downV]; go_simp) rfl hS
      | 1, ho =>
       cases ho
       have h7 := hsame 7 rfl
       exact val_op rfl (wanted_free rfl) (by clear hdep hsame hsz hdf; simp only [downV]; go_simp) rfl hS
      | 2, ho =>
       cases ho
       have h7 := hsame 7 rfl
       exact val_op rfl (wanted_free rfl) (by clear hdep hsame hsz hdf; simp only [downV]; go_simp) rfl hS
      | 3, ho =>
       cases ho
       have h1 := hsame 1 rfl
       exact val_op rfl (wanted_free rfl) (by clear hdep hsame hsz hdf; simp only [downV]; go_simp) rfl hS
      | 4, ho =>
       cases ho
       have h29 := hdep 2 _ 29 rfl rfl rfl
       have h30 := hdep 3 _ 30 rfl rfl rfl
       simp only [downV] at h29 h30
       exact val_call rfl (wanted_free rfl) (by clear hdep hsame hsz hdf; go_simp) ((cK _ a1 d1 k1 a2 d2 k2 a3 d3 k3 E.out.1 E.out.2.1 E.out.2.2 I.1 I.2.1 I.2.2).mono fun e w'' ⟨he, hb⟩ => ⟨he, BP.below hb, BN.below hb, ⟨I.1.below hb, I.2.1.below hb, I.2.2.below hb⟩, WB.below hb, Below.tr HB hb⟩)
      | 5, ho =>
       cases ho
       have h27 := hdep 0 _ 27 rfl rfl rfl
       have h28 := hdep 1 _ 28 rfl rfl rfl
       have h31 := hdep 4 _ 31 rfl rfl rfl
       simp only [downV] at h27 h28 h31
       exact val_call rfl (wanted_free rfl) (by clear hdep hsame hsz hdf; go_simp) ((cD _ a1 d1 k1 a2 d2 k2 a3 d3 k3 E.out.1 E.out.2.2 I.1 I.2.2).mono fun e w'' ⟨he, hb⟩ => ⟨he, BP.below hb, BN.below hb, ⟨I.1.below hb, I.2.1.below hb, I.2.2.below hb⟩, WB.below hb, Below.tr HB hb⟩)
      | 6, ho =>
       cases ho
       have h6 := hsame 6 rfl
       have h32 := hdep 5 _ 32 rfl rfl rfl
       simp only [downV] at h32
       exact val_skip (w' := (((X.setCell ⟨w1.heap.size, 0, none⟩ (.int .i64 kb)).setCell ⟨w1.heap.size, 1, none⟩ (.int .i64 (9 - (k : Int)))).setCell ⟨w1.heap.size, 2, none⟩ (.string x)).setCell ⟨w1.heap.size, 3, none⟩ (.string z)) rfl (wanted_free rfl) rfl (by clear hdep hsame hsz hdf; go_simp) ⟨BP.put _ _ _ _, WB.put (by omega) _ _ _ _, below_put4 HB (by omega) _ _ _ _⟩
      | n + 7, ho => simp at ho
     case done =>
      rintro X ⟨BP2, WB2, HB2⟩
      simp [filledN, downV]
      go_wp2
      go_roundw
      case rel => exact ⟨k, kb, x, z, by have := HK.out; omega, VE4.out, BP2, WB2, HB2⟩
      case measure => rw [depthLeft_at BP2.1.2.1, hm0.out]; omega
def getW (G : WoodS) (key : ByteArray) : ByteArray × Int := if 1 ≤ key.size ∧ key.size ≤ 32 then (if G.root = 0 then (⟨#[]⟩, 80) else findS G.holds key 8 G.root ⟨#[]⟩ ⟨#[]⟩) else (⟨#[]⟩, 1)
set_option maxRecDepth 20000 in
set_option maxHeartbeats 4000000 in
theorem lookGet_is (a a' b : Option Addr) (c c' f : Nat) (G : WoodS) (key : ByteArray) (w : World) (hB : IsB w a c G.base) (hB' : IsB w a' c' G.now) (hP : IsS w b f G.pages) (hkey : key.size ≤ maxLen) (hr : G.right = true) :
  Calls Tryz.prog 20 #[.agg #[.slice a G.base.length c, .slice a' G.now.length c', .slice b G.pages.length f, .int .i64 G.root, .int .i64 G.gen], .string key] w fun x w' => x = .returned (.tuple #[.string (getW G key).1, .int .i64 (getW G key).2]) ∧ Below w.heap.size w w' := by
 obtain ⟨bs, ns, ps, root, gen⟩ := G
 simp only at *
 obtain ⟨n, hn⟩ : ∃ n, n = bs.length := ⟨_, rfl⟩
 obtain ⟨n', hn'⟩ : ∃ n, n = ns.length := ⟨_, rfl⟩
 obtain ⟨p, hp⟩ : ∃ n, n = ps.length := ⟨_, rfl⟩
 rw [← hn, ← hn', ← hp]
 obtain ⟨W, hW⟩ : ∃ W, W = w.alloc (.cells #[.slice a n c, .slice a' n' c', .slice b p f, .int .i64 root, .int .i64 gen] 27) := ⟨_, rfl⟩
 have HB : Below w.heap.size w W := by rw [hW]; exact (Below.refl _ _).alloc (Nat.le_refl _) _
 have BW : WoodBox W w.heap.size (.slice a n c) (.slice a' n' c') (.slice b p f) (.int .i64 root) (.int .i64 gen) := by rw [hW]; exact woodBox_new _ _ _ _ _ _ _ rfl
 have cR := lookRight_any a a' b n c n' c' p f bs ns ps root gen W hn hn' hp (hB.below HB) (hB'.below HB) (hP.below HB)
 obtain ⟨x0, x1, x2, x3, x4⟩ := id (hW ▸ BW)
 have mk : key.size ≤ 9223372036854775807 := hkey
 have hr' : rightW bs ns ps root gen = true := hr
 rw [hr'] at cR
 by_cases hk0 : key.size = 0
 ·
  have hg : getW ⟨bs, ns, ps, root, gen⟩ key = (⟨#[]⟩, 1) := by unfold getW; rw [if_neg (by omega)]
  rw [hg]
  obtain rfl := str_empty hk0
  clear hn hn' hp hB hB' hP hr hr' hg hk0
  go_enter Tryz.func20, Tryz.ntmps20
  go_wp2_with (
   (go_at_call 30; rw [← hW]; refine cR.mono ?_; rintro y w1 ⟨rfl, hb⟩; replace HB := Below.tr HB hb; replace BW := BW.below hb; clear x0 x1 x2 x3 x4; obtain ⟨x0, x1, x2, x3, x4⟩ := id BW; clear hb))
  go_ret2
  exact ⟨rfl, HB⟩
 ·
  have hke := str_full hk0
  by_cases hk2 : key.size ≤ 32
  ·
   have hk2' : ¬ (32 : Int) < key.size := by omega
   by_cases hroot : root = 0
   ·
    have hroot' : (root == 0) = true := by simpa using hroot
    have hg : getW ⟨bs, ns, ps, root, gen⟩ key = (⟨#[]⟩, 80) := by unfold getW; rw [if_pos (by omega), if_pos hroot]
    rw [hg]
    clear hn hn' hp hB hB' hP hr hr' hg hk0 hroot
    go_enter Tryz.func20, Tryz.ntmps20
    go_wp2_with (
     (go_at_call 30; rw [← hW]; refine cR.mono ?_; rintro y w1 ⟨rfl, hb⟩; replace HB := Below.tr HB hb; replace BW := BW.below hb; clear x0 x1 x2 x3 x4; obtain ⟨x0, x1, x2, x3, x4⟩ := id BW; clear hb))
    go_ret2
    exact ⟨rfl, HB⟩
   ·
    have hroot' : (root == 0) = false := by simpa using hroot
    have hpn : p = n' := by rw [hp, hn']; exact rightW_len hr'
    have hg : getW ⟨bs, ns, ps, root, gen⟩ key = findS (holdsS ns ps gen) key 8 root ⟨#[]⟩ ⟨#[]⟩ := by unfold getW; rw [if_pos (by omega), if_neg hroot]; rfl
    rw [hg]
    have cF : ∀ (h : Nat) U, Below w.heap.size w U → w.heap.size ≤ h → WalkBox U h (.slice a n c) (.slice a' n' c') (.slice b p f) (.int .i64 root) (.int .i64 gen) 0 → Calls Tryz.prog 31 #[.pointer (some ⟨h, 0, none⟩), .string key] U fun x V' => x = .returned (.tuple #[.string (findS (holdsS ns ps gen) key 8 root ⟨#[]⟩ ⟨#[]⟩).1, .int .i64 (findS (holdsS ns ps gen) key 8 root ⟨#[]⟩ ⟨#[]⟩).2]) ∧ Below w.heap.size w V' := fun h U hU hh hb => find_any w U h a a' b n c n' c' p f ns ps root gen key hn' hp hpn hU hh hB' hP hb
    obtain ⟨⟨v, e⟩, hve⟩ : ∃ x, x = findS (holdsS ns ps gen) key 8 root ⟨#[]⟩ ⟨#[]⟩ := ⟨_, rfl⟩
    rw [← hve] at cF ⊢
    clear hn hn' hp hB hB' hP hr hr' hk0 hroot hpn hve hg
    go_enter Tryz.func20, Tryz.ntmps20
    go_wp2_with (first
     | (go_at_call 30; rw [← hW]; refine cR.mono ?_; rintro y w1 ⟨rfl, hb⟩; replace HB := Below.tr HB hb; replace BW := BW.below hb; clear x0 x1 x2 x3 x4; obtain ⟨x0, x1, x2, x3, x4⟩ := id BW; clear hb)
     | (go_at_call 31; have hA : Below w1.heap.size w1 (w1.alloc (.cells #[.slice a n c, .slice a' n' c', .slice b p f, .int .i64 root, .int .i64 gen, .int .i64 0] 67)) := (Below.refl _ _).alloc (Nat.le_refl _) _; have BK := walkBox_new w1 (.slice a n c) (.slice a' n' c') (.slice b p f) (.int .i64 root) (.int .i64 gen) 0 67 rfl; refine (cF _ _ (Below.tr HB hA) HB.size BK).mono ?_; rintro y w2 ⟨rfl, hb⟩; clear x0 x1 x2 x3 x4 HB hA BK BW))
    go_ret2
    exact ⟨rfl, hb⟩
  ·
   have hk2' : (32 : Int) < key.size := by omega
   have hg : getW ⟨bs, ns, ps, root, gen⟩ key = (⟨#[]⟩, 1) := by unfold getW; rw [if_neg (by omega)]
   rw [hg]
   clear hn hn' hp hB hB' hP hr hr' hg hk0
   go_enter Tryz.func20, Tryz.ntmps20
   go_wp2_with (
    (go_at_call 30; rw [← hW]; refine cR.mono ?_; rintro y w1 ⟨rfl, hb⟩; replace HB := Below.tr HB hb; replace BW := BW.below hb; clear x0 x1 x2 x3 x4; obtain ⟨x0, x1, x2, x3, x4⟩ := id BW; clear hb))
   go_ret2
   exact ⟨rfl, HB⟩
end Go.Proofs.YtaecfbfcjaailaaGreat
namespace Go.Proofs.YtaecfbfcjaailaaGreat
open Go.RowKit Plain
set_option linter.unusedVariables false
theorem down_facts {H : Int → Bool → Option NodeS} {key : ByteArray} : ∀ (k : Nat) (b : Int) (r : Bool) (w : List StepS), downG H key k b r = some w → 1 ≤ w.length ∧ w.length ≤ k ∧ (∀ s ∈ w, ∃ r', H s.1 r' = some s.2.1) ∧ (∀ (j : Nat) (s : StepS), j + 1 < w.length → w[j]? = some s → s.2.1.1 = false ∧ s.2.2 = kidN s.2.1.2.1 key) ∧ ∃ s, w[w.length - 1]? = some s ∧ s.2.1 = lastN w ∧ s.2.1.1 = true
 | 0, _, _, _, h => by cases h
 | k + 1, b, r, w, h => by
  cases hn : H b r with
  | none => rw [downG, hn] at h; cases h
  | some n =>
   rw [downG_at hn] at h
   split at h
   ·
    rename_i hl
    cases h
    refine ⟨by simp, by simp, fun s hs => ?_, fun j s hj => by simp at hj, _, rfl, rfl, hl⟩
    simp at hs; subst hs; exact ⟨r, hn⟩
   ·
    rename_i hl
    obtain ⟨x, e, rfl⟩ := Option.map_eq_some_iff.1 h
    obtain ⟨h1, h2, h3, h4, s0, h5, h6, h7⟩ := down_facts k _ _ x e
    have hx : x ≠ [] := fun e => by rw [e] at h1; simp at h1
    refine ⟨by simp, by simp; omega, fun s hs => ?_, fun j s hj hs => ?_, s0, ?_, ?_, h7⟩
    ·
     rcases List.mem_cons.1 hs with rfl | hs
     ·
      exact ⟨r, hn⟩
     ·
      exact h3 s hs
    ·
     cases j with
     | zero => simp at hs; subst hs; exact ⟨by simpa using hl, rfl⟩
     | succ j => exact h4 j s (by simp at hj; omega) (by simpa using hs)
    ·
     rw [List.length_cons, Nat.add_sub_cancel]
     obtain ⟨m, hm⟩ : ∃ m, x.length = m + 1 := ⟨x.length - 1, by omega⟩
     rw [hm, List.getElem?_cons_succ]
     rw [hm, Nat.add_sub_cancel] at h5
     exact h5
    ·
     rw [h6]
     unfold lastN
     cases x with
     | nil => exact absurd rfl hx
     | cons y ys => rw [List.getLast?_cons_cons]
theorem way_cap {w : World} {B g n cap : Nat} {xs : List Value} (h : w.ownsRow B 105 6 (.slice (some ⟨g, 0, none⟩) n cap) n xs) : n ≤ cap ∧ cap ≤ maxLen := by
 rcases h.2 with ⟨e, _⟩ | ⟨g', cap', cur, e, _, _, hnc, hcm, _⟩
 ·
  cases e
 ·
  cases e; exact ⟨hnc, hcm⟩
theorem way_at {w : World} {h q m : Nat} {ms : List MStep} {ss : List StepS} {s : StepS} (r : Reps w h q ms ss) (hs : ss[m]? = some s) : ∃ ml, Hid (ms[m]? = some ml) :=
 ⟨_, List.getElem?_eq_getElem (by rw [r.1]; exact (List.getElem?_eq_some_iff.1 hs).1)⟩
set_option maxRecDepth 20000 in
set_option maxHeartbeats 4000000 in
theorem growPut_any (h q cp : Nat) (a : Option Addr) (c : Nat) (a' : Option Addr) (c' : Nat) (G : WoodS) (key val : ByteArray) (w : World) (GA : GrowAt w h q cp a c a' c' G) (hr : G.right = true) (mk : key.size ≤ maxLen) (mv : val.size ≤ maxLen) :
  Calls Tryz.prog 33 #[.pointer (some ⟨h, 0, none⟩), .agg #[.string key, .string val]] w fun x w' => GrowC w x w' h q cp a a' (putG G key val) := by
 obtain ⟨W, hW⟩ : ∃ W, W = w.alloc (.cells #[.string key, .string val] 50) := ⟨_, rfl⟩
 have BP : Box2 W w.heap.size (.string key) (.string val) := by rw [hW]; exact box2_new _ _ _ _ rfl
 have HB : Below w.heap.size w W := by rw [hW]; exact (Below.refl _ _).alloc (Nat.le_refl _) _
 have hh : h < w.heap.size := GA.lt
 have hqq : q < w.heap.size := GA.pg.lt
 have GAw := GA
 replace GA := GA.below HB
 have mvi : val.size ≤ 9223372036854775807 := mv
 obtain ⟨p0, p1⟩ := (hW ▸ BP).1
 obtain ⟨x0, x1, x2, x3, x4⟩ := id (hW ▸ GA.box)
 obtain ⟨R, hR⟩ : ∃ R, R = putG G key val := ⟨_, rfl⟩
 rw [← hR]
 have cG : ∀ V, Below w.heap.size w V → Calls Tryz.prog 20 #[.agg #[.slice a G.base.length c, .slice a' G.now.length c', .slice (some ⟨q, 0, none⟩) G.pages.length cp, .int .i64 G.root, .int .i64 G.gen], .string key] V fun x w' => x = .returned (.tuple #[.string (getW G key).1, .int .i64 (getW G key).2]) ∧ Below V.heap.size V w' := fun V hV => lookGet_is a a' _ c c' cp G key V (GAw.bs.below hV) (GAw.ns.below hV) (GAw.pg.isS.below hV) mk hr
 by_cases hv : val.size ≤ 200
 ·
  have hv' : ¬ (200 : Int) < val.size := by omega
  by_cases hk : 1 ≤ key.size ∧ key.size ≤ 32
  ·
   have hp : isPairB key val = true := isPairB_iff.2 ⟨hk, hv⟩
   have hR0 : R = if G.root = 0 then plantG G (withPairN [] [] key val) else if (findS G.holds key 8 G.root ⟨#[]⟩ ⟨#[]⟩).2 = 81 then (81, G) else match downG G.holds key 8 G.root true with | none => (81, G) | some way => upG way.length way.reverse G (withPairN (lastN way).2.1 (lastN way).2.2.1 key val) := by rw [hR]; unfold putG; rw [if_pos hp]; rfl
   have hgW : getW G key = if G.root = 0 then (⟨#[]⟩, 80) else findS G.holds key 8 G.root ⟨#[]⟩ ⟨#[]⟩ := by unfold getW; rw [if_pos hk]
   by_cases hroot : G.root = 0
   ·
    rw [if_pos hroot] at hR0 hgW
    rw [hgW] at cG
    have hroot' : (G.root == 0) = true := by simpa using hroot
    rw [withPair_nil] at hR0
    have cP : ∀ V, Calls Tryz.prog 54 #[.agg #[.bool true, .slice none 0 0, .slice none 0 0, .slice none 0 0], .agg #[.string key, .string val]] V fun e w' => ∃ x1 y1 x2 y2, e = .returned (.agg #[.bool true, .slice x1 1 y1, .slice x2 1 y2, .slice none 0 0]) ∧ IsS w' x1 y1 [key] ∧ IsS w' x2 y2 [val] ∧ From V.heap.size x1 ∧ From V.heap.size x2 ∧ Below V.heap.size V w' := fun V => withPair_any none none none 0 0 0 0 0 0 1 1 [] [] [] key val V rfl rfl rfl (isS_nil _) (isS_nil _) (isI_nil _) rfl mk mv rfl rfl
    have cL : ∀ V {z1 : Option Addr} {t1 : Nat} {z2 : Option Addr} {t2 : Nat}, GrowAt V h q cp a c a' c' G → NodeR V h q z1 1 t1 z2 1 t2 none 0 0 [key] [val] [] → Calls Tryz.prog 53 #[.pointer (some ⟨h, 0, none⟩), .agg #[.bool true, .slice z1 1 t1, .slice z2 1 t2, .slice none 0 0]] V fun e w' => ∃ b1 e1 b2 e2, e = .returned (.int .i64 R.1) ∧ GrowAt w' h q cp b1 e1 b2 e2 R.2 ∧ (Newer V a b1 ∧ Newer V a' b2) ∧ Turns (Mine h q) V w' := fun V z1 t1 z2 t2 g n => by
     have := plant_any h q cp a c a' c' G true z1 1 t1 z2 1 t2 none 0 0 [key] [val] [] V g (fun _ => (right_ok.1 hr).1.len) n
     rw [← hR0] at this
     exact this
    obtain ⟨rE, rG⟩ := R
    clear hR hk hgW hR0 hp hroot
    go_enter Tryz.func33, Tryz.ntmps33
    go_wp2
    rw [← hW]
    clear hW x0 x1 x2 x3 x4 p0 p1
    obtain ⟨x0, x1, x2, x3, x4⟩ := id GA.box
    obtain ⟨⟨p0, p1⟩, -⟩ := id BP
    go_region_held3 (fun V => (V.cell? ⟨h, 0, none⟩ = some (.slice a G.base.length c) ∧ V.cell? ⟨h, 1, none⟩ = some (.slice a' G.now.length c') ∧ V.cell? ⟨h, 2, none⟩ = some (.slice (some ⟨q, 0, none⟩) G.pages.length cp) ∧ V.cell? ⟨h, 3, none⟩ = some (.int .i64 G.root) ∧ V.cell? ⟨h, 4, none⟩ = some (.int .i64 G.gen)) ∧ V.cell? ⟨w.heap.size, 0, none⟩ = some (.string key)) (exact ⟨⟨x0, x1, x2, x3, x4⟩, p0⟩) (first
     | (go_at_call 20; refine (cG _ HB.drew).mono ?_; rintro y w1 ⟨rfl, hb⟩; have hbW : Below W.heap.size W w1 := Below.tr (Below.refl W.heap.size W).drew hb; replace HB := Below.tr HB hbW; replace GA := GA.below hbW; replace BP := BP.below hbW; clear x0 x1 x2 x3 x4 p0 p1; obtain ⟨x0, x1, x2, x3, x4⟩ := id GA.box; obtain ⟨⟨p0, p1⟩, -⟩ := id BP; clear hb))
    have hs1 := HB.size
    go_wp2_with (first
     | (go_at_call 54; refine (cP _).mono ?_; rintro y w2 ⟨z1, t1, z2, t2, rfl, i1, i2, f1, f2, hb⟩; have NN : Hid (NodeR w2 h q z1 1 t1 z2 1 t2 none 0 0 [key] [val] []) := ⟨rfl, rfl, rfl, i1, i2, isI_nil _, f1.off2 (by omega) (by omega), f2.off2 (by omega) (by omega), off2_nil _ _⟩; replace GA := GA.below hb; replace HB := Below.tr HB hb; clear i1 i2 f1 f2 hb x0 x1 x2 x3 x4 p0 p1)
     | (go_at_call 53; refine (cL _ GA NN.out).mono ?_; rintro y w3 ⟨b1, e1, b2, e2, rfl, GA4, ⟨v1, v2⟩, T4⟩))
    go_ret
    exact growC_of rfl GA4 (v1.low HB.size) (v2.low HB.size) ((Turns.of_below HB).trans T4)
   ·
    rw [if_neg hroot] at hR0 hgW
    rw [hgW] at cG
    have hroot' : (G.root == 0) = false := by simpa using hroot
    have hends := findS_ends G.holds key 8 G.root ⟨#[]⟩ ⟨#[]⟩
    obtain ⟨⟨gv, ge⟩, hge⟩ : ∃ x, x = findS G.holds key 8 G.root ⟨#[]⟩ ⟨#[]⟩ := ⟨_, rfl⟩
    rw [← hge] at cG hends hR0
    simp only at cG hends hR0
    by_cases h81 : ge = 81
    ·
     rw [if_pos h81] at hR0
     subst hR0 h81
     clear hR hk hgW hp hends hge
     go_enter Tryz.func33, Tryz.ntmps33
     go_wp2
     rw [← hW]
     clear hW x0 x1 x2 x3 x4 p0 p1
     obtain ⟨x0, x1, x2, x3, x4⟩ := id GA.box
     obtain ⟨⟨p0, p1⟩, -⟩ := id BP
     go_region_held3 (fun V => (V.cell? ⟨h, 0, none⟩ = some (.slice a G.base.length c) ∧ V.cell? ⟨h, 1, none⟩ = some (.slice a' G.now.length c') ∧ V.cell? ⟨h, 2, none⟩ = some (.slice (some ⟨q, 0, none⟩) G.pages.length cp) ∧ V.cell? ⟨h, 3, none⟩ = some (.int .i64 G.root) ∧ V.cell? ⟨h, 4, none⟩ = some (.int .i64 G.gen)) ∧ V.cell? ⟨w.heap.size, 0, none⟩ = some (.string key)) (exact ⟨⟨x0, x1, x2, x3, x4⟩, p0⟩) (first
      | (go_at_call 20; refine (cG _ HB.drew).mono ?_; rintro y w1 ⟨rfl, hb⟩; have hbW : Below W.heap.size W w1 := Below.tr (Below.refl W.heap.size W).drew hb; replace HB := Below.tr HB hbW; replace GA := GA.below hbW; replace BP := BP.below hbW; clear x0 x1 x2 x3 x4 p0 p1; obtain ⟨x0, x1, x2, x3, x4⟩ := id GA.box; obtain ⟨⟨p0, p1⟩, -⟩ := id BP; clear hb))
     go_wp2
     go_ret
     exact growC_of rfl GA (newer_refl _ _) (newer_refl _ _) (Turns.of_below HB)
    ·
     rw [if_neg h81] at hR0
     have h080 : ge = 0 ∨ ge = 80 := by
      rcases hends with e | ⟨_, e | e⟩
      ·
       exact .inl e
      ·
       exact .inr e
      ·
       exact absurd e h81
     have cD : ∀ V, GrowAt V h q cp a c a' c' G → Calls Tryz.prog 55 #[.pointer (some ⟨h, 0, none⟩), .string key] V fun x w' => DownC V x w' h q (downG G.holds key 8 G.root true) := fun V g => down_any h q cp a c a' c' G key V g hr mk
     have hok := (right_ok.1 hr).1
     cases hD : downG G.holds key 8 G.root true with
     | none =>
      rw [hD] at hR0 cD
      have hR1 : R = (81, G) := hR0
      subst hR1
      clear hR hk hgW hp hends hge hR0 h81
      rcases h080 with rfl | rfl
      all_goals
       go_enter Tryz.func33, Tryz.ntmps33
       go_wp2
       rw [← hW]
       clear hW x0 x1 x2 x3 x4 p0 p1
       obtain ⟨x0, x1, x2, x3, x4⟩ := id GA.box
       obtain ⟨⟨p0, p1⟩, -⟩ := id BP
       go_region_held3 (fun V => (V.cell? ⟨h, 0, none⟩ = some (.slice a G.base.length c) ∧ V.cell? ⟨h, 1, none⟩ = some (.slice a' G.now.length c') ∧ V.cell? ⟨h, 2, none⟩ = some (.slice (some ⟨q, 0, none⟩) G.pages.length cp) ∧ V.cell? ⟨h, 3, none⟩ = some (.int .i64 G.root) ∧ V.cell? ⟨h, 4, none⟩ = some (.int .i64 G.gen)) ∧ V.cell? ⟨w.heap.size, 0, none⟩ = some (.string key)) (exact ⟨⟨x0, x1, x2, x3, x4⟩, p0⟩) (first
        | (go_at_call 20; refine (cG _ HB.drew).mono ?_; rintro y w1 ⟨rfl, hb⟩; have hbW : Below W.heap.size W w1 := Below.tr (Below.refl W.heap.size W).drew hb; replace HB := Below.tr HB hbW; replace GA := GA.below hbW; replace BP := BP.below hbW; clear x0 x1 x2 x3 x4 p0 p1; obtain ⟨x0, x1, x2, x3, x4⟩ := id GA.box; obtain ⟨⟨p0, p1⟩, -⟩ := id BP; clear hb))
       go_wp2_with (go_at_call 55; refine (cD _ GA).mono ?_; rintro y w2 ⟨rfl, hb⟩; replace GA := GA.below hb; replace HB := Below.tr HB hb)
       go_ret
       exact growC_of rfl GA (newer_refl _ _) (newer_refl _ _) (Turns.of_below HB)
     | some way =>
      rw [hD] at hR0 cD
      have hR1 : R = upG way.length way.reverse G (withPairN (lastN way).2.1 (lastN way).2.2.1 key val) := hR0
      obtain ⟨f1, f2, f3, f4, sl, f5, f6, f7⟩ := down_facts 8 _ _ way hD
      obtain ⟨_, g2, g3, _⟩ := down_way 8 _ _ way hD
      obtain ⟨m, hm⟩ : ∃ m, way.length = m + 1 := ⟨way.length - 1, by omega⟩
      rw [hm, Nat.add_sub_cancel] at f5
      have hst : standsN true sl.2.1.2.1 sl.2.1.2.2.1 sl.2.1.2.2.2 = true := by
       obtain ⟨r', hr'⟩ := f3 sl (List.mem_of_getElem? f5)
       have := (rightN_iff.1 (holds_nodeRight hr')).1
       rw [f7] at this
       exact this
      have hin : ∀ (j : Nat) (s : StepS), j + 1 < way.length → way[j]? = some s → s.2.2 ≤ s.2.1.2.1.length ∧ s.2.2 + 1 ≤ s.2.1.2.2.2.length ∧ s.2.1.2.1.length ≤ 9 ∧ s.2.1.2.2.2.length ≤ 10 := by
       intro j s hj hs
       obtain ⟨e1, e2⟩ := f4 j s hj hs
       obtain ⟨r', hr'⟩ := f3 s (List.mem_of_getElem? hs)
       have hs' := (rightN_iff.1 (holds_nodeRight hr')).1
       rw [e1] at hs'
       obtain ⟨z1, _, _, _, _, z6⟩ := standsN_iff.1 hs'
       obtain ⟨_, _, z7⟩ := shape_inner.1 z6
       have := kidN_le s.2.1.2.1 key
       rw [e2]
       omega
      have hR2 : R = upG (m + 1) way.reverse G (true, (withPairN sl.2.1.2.1 sl.2.1.2.2.1 key val).2.1, (withPairN sl.2.1.2.1 sl.2.1.2.2.1 key val).2.2.1, []) := by rw [hR1, hm, f6]; rfl
      obtain ⟨xk, hxk⟩ : ∃ xk, xk = (withPairN sl.2.1.2.1 sl.2.1.2.2.1 key val).2.1 := ⟨_, rfl⟩
      obtain ⟨xv, hxv⟩ : ∃ xv, xv = (withPairN sl.2.1.2.1 sl.2.1.2.2.1 key val).2.2.1 := ⟨_, rfl⟩
      rw [← hxk, ← hxv] at hR2
      have HX : Hid (way[m]? = some sl ∧ way.length = m + 1 ∧ standsN true sl.2.1.2.1 sl.2.1.2.2.1 sl.2.1.2.2.2 = true ∧ sl.2.1.1 = true) := ⟨f5, hm, hst, f7⟩
      have cP : ∀ V {ml : MStep}, ml.l = true → NodeR V h q ml.a1 ml.k1 ml.d1 ml.a2 ml.k2 ml.d2 ml.a3 ml.k3 ml.d3 sl.2.1.2.1 sl.2.1.2.2.1 sl.2.1.2.2.2 → Calls Tryz.prog 54 #[.agg #[.bool ml.l, .slice ml.a1 ml.k1 ml.d1, .slice ml.a2 ml.k2 ml.d2, .slice ml.a3 ml.k3 ml.d3], .agg #[.string key, .string val]] V fun e w' => ∃ x1 y1 x2 y2, e = .returned (.agg #[.bool true, .slice x1 xk.length y1, .slice x2 xv.length y2, .slice none 0 0]) ∧ IsS w' x1 y1 xk ∧ IsS w' x2 y2 xv ∧ From V.heap.size x1 ∧ From V.heap.size x2 ∧ Below V.heap.size V w' := fun V ml hl n => by
       rw [hl, hxk, hxv]
       exact withPair_any ml.a1 ml.a2 ml.a3 ml.d1 ml.d2 ml.d3 ml.k1 ml.k2 ml.k3 _ _ sl.2.1.2.1 sl.2.1.2.2.1 sl.2.1.2.2.2 key val V n.e1 n.e2 n.e3 n.i1 n.i2 n.i3 hst mk mv rfl rfl
      have cU : ∀ V {g cap : Nat} {ms : List MStep} {z1 : Option Addr} {t1 : Nat} {z2 : Option Addr} {t2 : Nat}, GrowAt V h q cp a c a' c' G → (m + 1 ≤ cap ∧ cap ≤ maxLen) → WayIn V g ms → (g ≠ h ∧ g ≠ q ∧ g < V.heap.size) → Reps V h q ms way → NodeR V h q z1 xk.length t1 z2 xv.length t2 none 0 0 xk xv [] → Calls Tryz.prog 56 #[.pointer (some ⟨h, 0, none⟩), .slice (some ⟨g, 0, none⟩) (m + 1) cap, .agg #[.bool true, .slice z1 xk.length t1, .slice z2 xv.length t2, .slice none 0 0]] V fun x w' => GrowC V x w' h q cp a a' R := fun V g cap ms z1 t1 z2 t2 ga hc wi hg rs n => by
       rw [hR2]
       exact up_any h q cp a c a' c' G g (m + 1) cap ms way true z1 xk.length t1 z2 xv.length t2 none 0 0 xk xv [] V ga hm.symm (by omega) (by omega) hc.1 hc.2 wi hg rs hok g3 g2 hin n
      have hm8 : m ≤ 7 := by omega
      have hwm : IntKind.i64.wrap (m : Int) = (m : Int) := i64_in _ (by omega) (by omega)
      have hmi : (m : Int) < (m : Int) + 1 := by omega
      obtain ⟨rE, rG⟩ := R
      clear hR hk hgW hp hends hge hR0 hR1 hR2 h81 f1 f2 f3 f4 f5 f6 f7 g2 g3 hin hst hm hxk hxv hD hroot
      obtain ⟨nk, hnk⟩ : ∃ nk, nk = xk.length := ⟨_, rfl⟩
      obtain ⟨nv, hnv⟩ : ∃ nv, nv = xv.length := ⟨_, rfl⟩
      rw [← hnk, ← hnv] at cP cU
      have HNK : Hid (nk = xk.length ∧ nv = xv.length) := ⟨hnk, hnv⟩
      clear hnk hnv
      rcases h080 with rfl | rfl
      ·
       go_enter Tryz.func33, Tryz.ntmps33
       go_wp2
       rw [← hW]
       clear hW x0 x1 x2 x3 x4 p0 p1
       obtain ⟨x0, x1, x2, x3, x4⟩ := id GA.box
       obtain ⟨⟨p0, p1⟩, -⟩ := id BP
       go_region_held3 (fun V => (V.cell? ⟨h, 0, none⟩ = some (.slice a G.base.length c) ∧ V.cell? ⟨h, 1, none⟩ = some (.slice a' G.now.length c') ∧ V.cell? ⟨h, 2, none⟩ = some (.slice (some ⟨q, 0, none⟩) G.pages.length cp) ∧ V.cell? ⟨h, 3, none⟩ = some (.int .i64 G.root) ∧ V.cell? ⟨h, 4, none⟩ = some (.int .i64 G.gen)) ∧ V.cell? ⟨w.heap.size, 0, none⟩ = some (.string key)) (exact ⟨⟨x0, x1, x2, x3, x4⟩, p0⟩) (first
        | (go_at_call 20; refine (cG _ HB.drew).mono ?_; rintro y w1 ⟨rfl, hb⟩; have hbW : Below W.heap.size W w1 := Below.tr (Below.refl W.heap.size W).drew hb; replace HB := Below.tr HB hbW; replace GA := GA.below hbW; replace BP := BP.below hbW; clear x0 x1 x2 x3 x4 p0 p1; obtain ⟨x0, x1, x2, x3, x4⟩ := id GA.box; obtain ⟨⟨p0, p1⟩, -⟩ := id BP; clear hb))
       go_wp2_with (first
        | (go_at_call 55; refine (cD _ GA).mono ?_; rintro y w2 ⟨g, cap, n2, ms, rfl, hn2, own2, rs2, hb⟩; have hnm : n2 = m + 1 := hn2.trans HX.out.2.1; subst hnm; have hcap : Hid (m + 1 ≤ cap ∧ cap ≤ maxLen) := way_cap own2; have wi2 := owned_way own2; have hglt := own2.lt g rfl; have hs1 := HB.size; have hWs := BP.lt; obtain ⟨ml, hml⟩ : ∃ ml, Hid (ms[m]? = some ml) := way_at rs2 HX.out.1; obtain ⟨rb0, rb1, rb2, rb3⟩ := rs2.2 m ml sl hml.out HX.out.1; have hmlt : Hid (ml.l = true) := rb1.trans HX.out.2.2.2; obtain ⟨z0, z1, z2, z3, z4, z5⟩ := wi2 m ml hml.out; have hA : Below w2.heap.size w2 (w2.alloc (.cells #[.bool ml.l, .slice ml.a1 ml.k1 ml.d1, .slice ml.a2 ml.k2 ml.d2, .slice ml.a3 ml.k3 ml.d3] 76)) := (Below.refl _ _).alloc (Nat.le_refl _) _; have BL := box4_new w2 (.bool ml.l) (.slice ml.a1 ml.k1 ml.d1) (.slice ml.a2 ml.k2 ml.d2) (.slice ml.a3 ml.k3 ml.d3) 76 rfl; have NL : Hid (NodeR (w2.alloc (.cells #[.bool ml.l, .slice ml.a1 ml.k1 ml.d1, .slice ml.a2 ml.k2 ml.d2, .slice ml.a3 ml.k3 ml.d3] 76)) h q ml.a1 ml.k1 ml.d1 ml.a2 ml.k2 ml.d2 ml.a3 ml.k3 ml.d3 sl.2.1.2.1 sl.2.1.2.2.1 sl.2.1.2.2.2) := rb3.below hA; replace GA := (GA.below hb).below hA; replace HB := Below.tr (Below.tr HB hb) hA; replace BP := (BP.below hb).below hA; have WI : Hid (WayIn (w2.alloc (.cells #[.bool ml.l, .slice ml.a1 ml.k1 ml.d1, .slice ml.a2 ml.k2 ml.d2, .slice ml.a3 ml.k3 ml.d3] 76)) g ms) := wi2.turns (Turns.of_below (P := fun _ => False) hA) id; have RS : Hid (Reps (w2.alloc (.cells #[.bool ml.l, .slice ml.a1 ml.k1 ml.d1, .slice ml.a2 ml.k2 ml.d2, .slice ml.a3 ml.k3 ml.d3] 76)) h q ms way) := rs2.below hA; clear rb0 rb1 rb2 rb3 hn2 own2 rs2 wi2 hb hA x0 x1 x2 x3 x4 p0 p1; obtain ⟨⟨p0, p1⟩, -⟩ := id BP; obtain ⟨⟨l0, l1, l2, l3⟩, -⟩ := id BL)
        | (go_at_call 54; refine (cP _ hmlt.out NL.out).mono ?_; rintro y w3 ⟨c1, t1, c2, t2, rfl, i1, i2, f1, f2, hb⟩; have hs2 : w.heap.size ≤ (w2.alloc (.cells #[.bool ml.l, .slice ml.a1 ml.k1 ml.d1, .slice ml.a2 ml.k2 ml.d2, .slice ml.a3 ml.k3 ml.d3] 76)).heap.size := HB.size; have NN : Hid (NodeR w3 h q c1 nk t1 c2 nv t2 none 0 0 xk xv []) := ⟨HNK.out.1, HNK.out.2, rfl, i1, i2, isI_nil _, f1.off2 (by omega) (by omega), f2.off2 (by omega) (by omega), off2_nil _ _⟩; have hs3 := hb.size; replace GA := GA.below hb; replace HB := Below.tr HB hb; replace WI : Hid (WayIn w3 g ms) := WI.out.turns (Turns.of_below (P := fun _ => False) hb) id; replace RS : Hid (Reps w3 h q ms way) := RS.out.below hb; clear i1 i2 f1 f2 hb p0 p1 l0 l1 l2 l3 z0 z1 z2 z3 z4 z5)
        | (go_at_call 56; refine (cU _ GA hcap.out WI.out ⟨by omega, by omega, by simp at hs3; omega⟩ RS.out NN.out).mono ?_; rintro y w4 ⟨b1, e1, b2, e2, rfl, GA4, ⟨v1, v2⟩, T4⟩))
       go_ret
       exact growC_of rfl GA4 (v1.low HB.size) (v2.low HB.size) ((Turns.of_below HB).trans T4)
      ·
       go_enter Tryz.func33, Tryz.ntmps33
       go_wp2
       rw [← hW]
       clear hW x0 x1 x2 x3 x4 p0 p1
       obtain ⟨x0, x1, x2, x3, x4⟩ := id GA.box
       obtain ⟨⟨p0, p1⟩, -⟩ := id BP
       go_region_held3 (fun V => (V.cell? ⟨h, 0, none⟩ = some (.slice a G.base.length c) ∧ V.cell? ⟨h, 1, none⟩ = some (.slice a' G.now.length c') ∧ V.cell? ⟨h, 2, none⟩ = some (.slice (some ⟨q, 0, none⟩) G.pages.length cp) ∧ V.cell? ⟨h, 3, none⟩ = some (.int .i64 G.root) ∧ V.cell? ⟨h, 4, none⟩ = some (.int .i64 G.gen)) ∧ V.cell? ⟨w.heap.size, 0, none⟩ = some (.string key)) (exact ⟨⟨x0, x1, x2, x3, x4⟩, p0⟩) (first
        | (go_at_call 20; refine (cG _ HB.drew).mono ?_; rintro y w1 ⟨rfl, hb⟩; have hbW : Below W.heap.size W w1 := Below.tr (Below.refl W.heap.size W).drew hb; replace HB := Below.tr HB hbW; replace GA := GA.below hbW; replace BP := BP.below hbW; clear x0 x1 x2 x3 x4 p0 p1; obtain ⟨x0, x1, x2, x3, x4⟩ := id GA.box; obtain ⟨⟨p0, p1⟩, -⟩ := id BP; clear hb))
       go_wp2_with (first
        | (go_at_call 55; refine (cD _ GA).mono ?_; rintro y w2 ⟨g, cap, n2, ms, rfl, hn2, own2, rs2, hb⟩; have hnm : n2 = m + 1 := hn2.trans HX.out.2.1; subst hnm; have hcap : Hid (m + 1 ≤ cap ∧ cap ≤ maxLen) := way_cap own2; have wi2 := owned_way own2; have hglt := own2.lt g rfl; have hs1 := HB.size; have hWs := BP.lt; obtain ⟨ml, hml⟩ : ∃ ml, Hid (ms[m]? = some ml) := way_at rs2 HX.out.1; obtain ⟨rb0, rb1, rb2, rb3⟩ := rs2.2 m ml sl hml.out HX.out.1; have hmlt : Hid (ml.l = true) := rb1.trans HX.out.2.2.2; obtain ⟨z0, z1, z2, z3, z4, z5⟩ := wi2 m ml hml.out; have hA : Below w2.heap.size w2 (w2.alloc (.cells #[.bool ml.l, .slice ml.a1 ml.k1 ml.d1, .slice ml.a2 ml.k2 ml.d2, .slice ml.a3 ml.k3 ml.d3] 76)) := (Below.refl _ _).alloc (Nat.le_refl _) _; have BL := box4_new w2 (.bool ml.l) (.slice ml.a1 ml.k1 ml.d1) (.slice ml.a2 ml.k2 ml.d2) (.slice ml.a3 ml.k3 ml.d3) 76 rfl; have NL : Hid (NodeR (w2.alloc (.cells #[.bool ml.l, .slice ml.a1 ml.k1 ml.d1, .slice ml.a2 ml.k2 ml.d2, .slice ml.a3 ml.k3 ml.d3] 76)) h q ml.a1 ml.k1 ml.d1 ml.a2 ml.k2 ml.d2 ml.a3 ml.k3 ml.d3 sl.2.1.2.1 sl.2.1.2.2.1 sl.2.1.2.2.2) := rb3.below hA; replace GA := (GA.below hb).below hA; replace HB := Below.tr (Below.tr HB hb) hA; replace BP := (BP.below hb).below hA; have WI : Hid (WayIn (w2.alloc (.cells #[.bool ml.l, .slice ml.a1 ml.k1 ml.d1, .slice ml.a2 ml.k2 ml.d2, .slice ml.a3 ml.k3 ml.d3] 76)) g ms) := wi2.turns (Turns.of_below (P := fun _ => False) hA) id; have RS : Hid (Reps (w2.alloc (.cells #[.bool ml.l, .slice ml.a1 ml.k1 ml.d1, .slice ml.a2 ml.k2 ml.d2, .slice ml.a3 ml.k3 ml.d3] 76)) h q ms way) := rs2.below hA; clear rb0 rb1 rb2 rb3 hn2 own2 rs2 wi2 hb hA x0 x1 x2 x3 x4 p0 p1; obtain ⟨⟨p0, p1⟩, -⟩ := id BP; obtain ⟨⟨l0, l1, l2, l3⟩, -⟩ := id BL)
        | (go_at_call 54; refine (cP _ hmlt.out NL.out).mono ?_; rintro y w3 ⟨c1, t1, c2, t2, rfl, i1, i2, f1, f2, hb⟩; have hs2 : w.heap.size ≤ (w2.alloc (.cells #[.bool ml.l, .slice ml.a1 ml.k1 ml.d1, .slice ml.a2 ml.k2 ml.d2, .slice ml.a3 ml.k3 ml.d3] 76)).heap.size := HB.size; have NN : Hid (NodeR w3 h q c1 nk t1 c2 nv t2 none 0 0 xk xv []) := ⟨HNK.out.1, HNK.out.2, rfl, i1, i2, isI_nil _, f1.off2 (by omega) (by omega), f2.off2 (by omega) (by omega), off2_nil _ _⟩; have hs3 := hb.size; replace GA := GA.below hb; replace HB := Below.tr HB hb; replace WI : Hid (WayIn w3 g ms) := WI.out.turns (Turns.of_below (P := fun _ => False) hb) id; replace RS : Hid (Reps w3 h q ms way) := RS.out.below hb; clear i1 i2 f1 f2 hb p0 p1 l0 l1 l2 l3 z0 z1 z2 z3 z4 z5)
        | (go_at_call 56; refine (cU _ GA hcap.out WI.out ⟨by omega, by omega, by simp at hs3; omega⟩ RS.out NN.out).mono ?_; rintro y w4 ⟨b1, e1, b2, e2, rfl, GA4, ⟨v1, v2⟩, T4⟩))
       go_ret
       exact growC_of rfl GA4 (v1.low HB.size) (v2.low HB.size) ((Turns.of_below HB).trans T4)
  ·
   have hR0 : R = (1, G) := by rw [hR]; unfold putG; rw [if_neg (fun e => hk (isPairB_iff.1 e).1)]
   have hgW : getW G key = (⟨#[]⟩, 1) := by unfold getW; rw [if_neg hk]
   rw [hgW] at cG
   subst hR0
   clear hR hk hgW hr
   go_enter Tryz.func33, Tryz.ntmps33
   go_wp2
   rw [← hW]
   clear hW x0 x1 x2 x3 x4 p0 p1
   obtain ⟨x0, x1, x2, x3, x4⟩ := id GA.box
   obtain ⟨⟨p0, p1⟩, -⟩ := id BP
   go_region_held3 (fun V => (V.cell? ⟨h, 0, none⟩ = some (.slice a G.base.length c) ∧ V.cell? ⟨h, 1, none⟩ = some (.slice a' G.now.length c') ∧ V.cell? ⟨h, 2, none⟩ = some (.slice (some ⟨q, 0, none⟩) G.pages.length cp) ∧ V.cell? ⟨h, 3, none⟩ = some (.int .i64 G.root) ∧ V.cell? ⟨h, 4, none⟩ = some (.int .i64 G.gen)) ∧ V.cell? ⟨w.heap.size, 0, none⟩ = some (.string key)) (exact ⟨⟨x0, x1, x2, x3, x4⟩, p0⟩) (first
    | (go_at_call 20; refine (cG _ HB.drew).mono ?_; rintro y w1 ⟨rfl, hb⟩; have hbW : Below W.heap.size W w1 := Below.tr (Below.refl W.heap.size W).drew hb; replace HB := Below.tr HB hbW; replace GA := GA.below hbW; replace BP := BP.below hbW; clear x0 x1 x2 x3 x4 p0 p1; obtain ⟨x0, x1, x2, x3, x4⟩ := id GA.box; obtain ⟨⟨p0, p1⟩, -⟩ := id BP; clear hb))
   go_wp2
   go_ret
   exact growC_of rfl GA (newer_refl _ _) (newer_refl _ _) (Turns.of_below HB)
 ·
  have hv' : (200 : Int) < val.size := by omega
  have hR0 : R = (1, G) := by rw [hR]; unfold putG; rw [if_neg (fun e => hv (isPairB_iff.1 e).2)]
  subst hR0
  clear cG hR
  go_enter Tryz.func33, Tryz.ntmps33
  go_wp2
  go_ret
  exact growC_of rfl (hW ▸ GA) (newer_refl _ _) (newer_refl _ _) (Turns.of_below (hW ▸ HB))
def allG : WoodS → List (ByteArray × ByteArray) → Int × WoodS
 | G, [] => (0, G)
 | G, p :: ps => if (putG G p.1 p.2).1 = 0 then allG (putG G p.1 p.2).2 ps else ((putG G p.1 p.2).1, WoodS.none)
def allR (G : WoodS) (ps : List (ByteArray × ByteArray)) : Int × WoodS := if G.right = true then allG G ps else (1, WoodS.none)
theorem allG_step {G G' : WoodS} {ps : List (ByteArray × ByteArray)} {p : ByteArray × ByteArray} {j : Nat} (hp : ps[j]? = some p) (h : putG G p.1 p.2 = (0, G')) : allG G (ps.drop j) = allG G' (ps.drop (j + 1)) := by
 obtain ⟨hl, e⟩ := List.getElem?_eq_some_iff.1 hp
 rw [List.drop_eq_getElem_cons hl, e, allG, h, if_pos rfl]
theorem allG_stop {G : WoodS} {ps : List (ByteArray × ByteArray)} {p : ByteArray × ByteArray} {j : Nat} (hp : ps[j]? = some p) (h : (putG G p.1 p.2).1 ≠ 0) : allG G (ps.drop j) = ((putG G p.1 p.2).1, WoodS.none) := by
 obtain ⟨hl, e⟩ := List.getElem?_eq_some_iff.1 hp
 rw [List.drop_eq_getElem_cons hl, e, allG, if_neg h]
theorem allG_end {G : WoodS} {ps : List (ByteArray × ByteArray)} : allG G (ps.drop ps.length) = (0, G) := by rw [List.drop_length, allG]
def AllC (w : World) (e : Ending) (w' : World) (R : Int × WoodS) : Prop :=
 ∃ a1 c1 a2 c2 b3 c3, e = .returned (.tuple #[.agg #[.slice a1 R.2.base.length c1, .slice a2 R.2.now.length c2, .slice b3 R.2.pages.length c3, .int .i64 R.2.root, .int .i64 R.2.gen], .int .i64 R.1]) ∧ (IsB w' a1 c1 R.2.base ∧ IsB w' a2 c2 R.2.now ∧ IsS w' b3 c3 R.2.pages) ∧ (From w.heap.size a1 ∧ From w.heap.size a2 ∧ From w.heap.size b3) ∧ Below w.heap.size w w'
theorem allC_none {w w' : World} (E : Int) (hb : Below w.heap.size w w') : AllC w (.returned (.tuple #[.agg #[.slice none 0 0, .slice none 0 0, .slice none 0 0, .int .i64 0, .int .i64 0], .int .i64 E])) w' (E, WoodS.none) :=
 ⟨none, 0, none, 0, none, 0, rfl, ⟨IsB_nil _, IsB_nil _, isS_nil _⟩, ⟨from_nil _, from_nil _, from_nil _⟩, hb⟩
theorem allC_some {w w1 w' : World} {h q cp : Nat} {a : Option Addr} {c : Nat} {a' : Option Addr} {c' : Nat} {G : WoodS} (g : GrowAt w1 h q cp a c a' c' G) (f1 : From w.heap.size a) (f2 : From w.heap.size a') (hq : w.heap.size ≤ q) {z : Nat} (hb : Below w.heap.size w w1) (t : Turns (fun k => k = z) w1 w') (hz : w.heap.size ≤ z) (hzb : ∀ x, a = some x → x.block ≠ z) (hzn : ∀ x, a' = some x → x.block ≠ z) (hzq : q ≠ z) :
  AllC w (.returned (.tuple #[.agg #[.slice a G.base.length c, .slice a' G.now.length c', .slice (some ⟨q, 0, none⟩) G.pages.length cp, .int .i64 G.root, .int .i64 G.gen], .int .i64 0])) w' (0, G) :=
 ⟨a, c, a', c', some ⟨q, 0, none⟩, cp, rfl, ⟨g.bs.turns t hzb, g.ns.turns t hzn, (g.pg.turns t hzq).isS⟩, ⟨f1, f2, fun x hx => by cases hx; exact hq⟩, Below.turns hb t fun i e => by omega⟩
theorem growAt_new {w : World} {a : Option Addr} {c : Nat} {a' : Option Addr} {c' q cp : Nat} {G : WoodS} {B : Nat} (o1 : OwnT B w a c G.base) (o2 : OwnT B w a' c' G.now) (o3 : RowP w q cp G.pages) (n1 : 1 ≤ G.base.length) (n2 : 1 ≤ G.now.length) (n3 : 1 ≤ G.pages.length) (t : TypeId) {h : Nat} (hh : h = w.heap.size) :
  GrowAt (w.alloc (.cells #[.slice a G.base.length c, .slice a' G.now.length c', .slice (some ⟨q, 0, none⟩) G.pages.length cp, .int .i64 G.root, .int .i64 G.gen] t)) h q cp a c a' c' G := by
 obtain ⟨bx, f0, f1, f2, f3, f4⟩ := box5_new w (.slice a G.base.length c) (.slice a' G.now.length c') (.slice (some ⟨q, 0, none⟩) G.pages.length cp) (.int .i64 G.root) (.int .i64 G.gen) t hh
 have hb := (Below.refl w.heap.size w).alloc (Nat.le_refl _) (.cells #[.slice a G.base.length c, .slice a' G.now.length c', .slice (some ⟨q, 0, none⟩) G.pages.length cp, .int .i64 G.root, .int .i64 G.gen] t)
 have hq0 := (o3.at_ 0 _ (List.getElem?_eq_getElem (by omega))).1
 have off : ∀ (l : List Bool) (x : Option Addr) (cx : Nat), 1 ≤ l.length → OwnT B w x cx l → Off2 h q x := by
  intro l x cx hl o
  obtain ⟨g, rfl, hg, hr⟩ := o.some (by omega)
  intro y hy
  cases hy
  refine ⟨fun e => ?_, fun e => ?_⟩
  ·
   have := hr.lt
   simp only at e
   omega
  ·
   simp only at e
   subst e
   have := (hr.cell (List.getElem?_eq_getElem (by omega : 0 < l.length))).1
   rw [hq0] at this
   cases this
 exact ⟨bx, f0, f1, f3, o1.isB.below hb, o2.isB.below hb, off _ _ _ n1 o1, off _ _ _ n2 o2, o3.turns (P := fun _ => False) (Turns.of_below hb) id, (by have := o3.lt; omega), o1.held.mono hb.size, o2.held.mono hb.size⟩
set_option maxRecDepth 20000 in
set_option maxHeartbeats 4000000 in
theorem growAll_any (a a' b d : Option Addr) (c c' f k dc : Nat) (G : WoodS) (ps : List (ByteArray × ByteArray)) (w : World) (hk : k = ps.length) (hB : IsB w a c G.base) (hB' : IsB w a' c' G.now) (hP : IsS w b f G.pages) (hQ : IsQ w d dc ps) :
  Calls Tryz.prog 21 #[.agg #[.slice a G.base.length c, .slice a' G.now.length c', .slice b G.pages.length f, .int .i64 G.root, .int .i64 G.gen], .slice d k dc] w fun e w' => AllC w e w' (allR G ps) := by
 obtain ⟨n, hn⟩ : ∃ n, n = G.base.length := ⟨_, rfl⟩
 obtain ⟨n', hn'⟩ : ∃ n, n = G.now.length := ⟨_, rfl⟩
 obtain ⟨p, hp⟩ : ∃ n, n = G.pages.length := ⟨_, rfl⟩
 obtain ⟨W, hW⟩ : ∃ W, W = (w.alloc (.cells #[.slice a n c, .slice a' n' c', .slice b p f, .int .i64 G.root, .int .i64 G.gen] 27)).alloc (.cells #[.slice none 0 0, .slice none 0 0, .slice none 0 0, .int .i64 0, .int .i64 0] 27) := ⟨_, rfl⟩
 have BX : Box5 W w.heap.size (.slice a n c) (.slice a' n' c') (.slice b p f) (.int .i64 G.root) (.int .i64 G.gen) := by rw [hW]; exact (box5_new _ _ _ _ _ _ _ rfl).alloc _
 have BO : Box5 W (w.heap.size + 1) (.slice none 0 0) (.slice none 0 0) (.slice none 0 0) (.int .i64 0) (.int .i64 0) := by rw [hW]; exact box5_new _ _ _ _ _ _ _ (by simp)
 have HB : Below w.heap.size w W := by rw [hW]; exact ((Below.refl _ _).alloc (Nat.le_refl _) _).alloc (by simp) _
 have hWs : W.heap.size = w.heap.size + 2 := by rw [hW]; simp
 have cR := lookRight_any a a' b n c n' c' p f G.base G.now G.pages G.root G.gen W hn hn' hp (hB.below HB) (hB'.below HB) (hP.below HB)
 obtain ⟨x0, x1, x2, x3, x4⟩ := (hW ▸ BX).1
 rw [← hn, ← hn', ← hp]
 cases hr : G.right with
 | false =>
  have e1 : allR G ps = (1, WoodS.none) := by unfold allR; rw [hr]; rfl
  have cR' : Calls Tryz.prog 30 #[.agg #[.slice a n c, .slice a' n' c', .slice b p f, .int .i64 G.root, .int .i64 G.gen]] W fun e w' => e = .returned (.bool false) ∧ Below W.heap.size W w' := by rw [← hr]; exact cR
  rw [e1]
  clear e1 hr hn hn' hp hk hB hB' hP hQ cR
  go_enter Tryz.func21, Tryz.ntmps21
  go_wp2_with (go_at_call 30; rw [← hW]; refine cR'.mono ?_; rintro y w1 ⟨rfl, hb⟩; replace BO := BO.below hb; replace HB := Below.tr HB hb; clear hb x0 x1 x2 x3 x4; obtain ⟨⟨y0, y1, y2, y3, y4⟩, f0, f1, f2, f3, f4⟩ := id BO; obtain ⟨z0, z1, z2, z3, z4⟩ := set5_box BO.1 (.slice none 0 0) (.slice none 0 0) (.slice none 0 0) (.int .i64 0) (.int .i64 0); unfold set5 at z0 z1 z2 z3 z4)
  refine bodyPost_ret (v := .tuple #[.agg #[.slice none 0 0, .slice none 0 0, .slice none 0 0, .int .i64 0, .int .i64 0], .int .i64 1]) (by simp [results, Tryz.results21, go_sem, z0, z1, z2, z3, z4]) rfl (allC_none 1 ?_)
  exact Below.turns HB (set5_turns (P := fun k => k = w.heap.size + 1) (Turns.refl _ _) rfl _ _ _ _ _) fun i e => by omega
 | true =>
  have e1 : allR G ps = allG G ps := by unfold allR; rw [if_pos hr]
  rw [e1]
  clear e1
  obtain ⟨hok, -⟩ := right_ok.1 hr
  obtain ⟨hl, h24, h4k, -⟩ := (rightA_iff _ _).1 hok.alloc
  have hpl := hok.len
  have cR' : Calls Tryz.prog 30 #[.agg #[.slice a n c, .slice a' n' c', .slice b p f, .int .i64 G.root, .int .i64 G.gen]] W fun e w' => e = .returned (.bool true) ∧ Below W.heap.size W w' := by rw [← hr]; exact cR
  have cC : ∀ V, Below w.heap.size w V → Calls Tryz.prog 32 #[.agg #[.slice a n c, .slice a' n' c', .slice b p f, .int .i64 G.root, .int .i64 G.gen]] V fun e w' => CopC V e w' n n' p G.base G.now G.pages G.root G.gen := fun V hV =>
   copied_any a a' b n c n' c' p f G.base G.now G.pages G.root G.gen V hn hn' hp (hB.below hV) (hB'.below hV) (hP.below hV) (by omega) (by omega) (by omega) (by omega)
  have cN : ∀ (V : World) {a1 : Option Addr} {c1 : Nat} {a2 : Option Addr} {c2 q cp B : Nat}, OwnT B V a1 c1 G.base → OwnT B V a2 c2 G.now → RowP V q cp G.pages → GrowAt (V.alloc (.cells #[.slice a1 n c1, .slice a2 n' c2, .slice (some ⟨q, 0, none⟩) p cp, .int .i64 G.root, .int .i64 G.gen] 71)) V.heap.size q cp a1 c1 a2 c2 G := fun V a1 c1 a2 c2 q cp B o1 o2 o3 => by
   rw [hn, hn', hp]
   exact growAt_new o1 o2 o3 (by omega) (by omega) (by omega) _ rfl
  have mk : k ≤ 9223372036854775807 := by rw [hk]; exact Nat.le_trans hQ.1 hQ.2.1
  have HK : Hid (k = ps.length) := hk
  have RQ : Hid (IsQ w d dc ps) := hQ
  have HR : Hid (G.right = true) := hr
  clear hr hn hn' hp hk hB hB' hP hQ cR hok hl h24 h4k hpl
  go_enter Tryz.func21, Tryz.ntmps21
  go_wp2_with (first
   | (go_at_call 30; rw [← hW]; refine cR'.mono ?_; rintro y w1 ⟨rfl, hb⟩; replace BO := BO.below hb; replace BX := BX.below hb; have hs1 := hb.size; replace HB := Below.tr HB hb; clear hb x0 x1 x2 x3 x4; obtain ⟨x0, x1, x2, x3, x4⟩ := BX.1)
   | (go_at_call 32; refine (cC _ HB).mono ?_; rintro y w2 ⟨a1, c1, a2, c2, q, cp, rfl, o1, o2, o3, hq, hb⟩; have F1 := o1.from; have F2 := o2.from; have GA := cN w2 o1 o2 o3; replace BO := (BO.below hb).alloc (.cells #[.slice a1 n c1, .slice a2 n' c2, .slice (some ⟨q, 0, none⟩) p cp, .int .i64 G.root, .int .i64 G.gen] 71); have hs2 := hb.size; replace HB := (Below.tr HB hb).alloc (Below.tr HB hb).size (.cells #[.slice a1 n c1, .slice a2 n' c2, .slice (some ⟨q, 0, none⟩) p cp, .int .i64 G.root, .int .i64 G.gen] 71); clear o1 o2 o3 hb x0 x1 x2 x3 x4))
  have hsh : w.heap.size + 2 ≤ w2.heap.size := by omega
  have hsq : w.heap.size + 2 ≤ q := by omega
  replace F1 : From (w.heap.size + 2) a1 := F1.mono (by omega)
  replace F2 : From (w.heap.size + 2) a2 := F2.mono (by omega)
  clear hs1 hs2 hq hW hWs cR' cC cN BX
  generalize w2.heap.size = h at *
  generalize w2.alloc _ = W3 at *
  go_loopw [19] (fun v wr => ∃ (j : Nat) (b1 : Option Addr) (e1 : Nat) (b2 : Option Addr) (e2 : Nat) (Gj : WoodS), j ≤ k ∧ v = .int .i64 j ∧ (allG G ps = allG Gj (ps.drop j) ∧ Gj.right = true) ∧ GrowAt wr h q cp b1 e1 b2 e2 Gj ∧ (From (w.heap.size + 2) b1 ∧ From (w.heap.size + 2) b2) ∧ Box5 wr (w.heap.size + 1) (.slice none 0 0) (.slice none 0 0) (.slice none 0 0) (.int .i64 0) (.int .i64 0) ∧ Below w.heap.size w wr) (fun v _ => k - (intOf v).toNat)
  case atStart => exact ⟨0, a1, c1, a2, c2, G, by omega, rfl, ⟨rfl, HR.out⟩, GA, ⟨F1, F2⟩, BO, HB⟩
  case round =>
   clear GA F1 F2 BO HB
   obtain ⟨j, b1, e1, b2, e2, Gj, hj, rfl, hA, GA, ⟨F1, F2⟩, BO, HB⟩ := hrel
   have HA : Hid (allG G ps = allG Gj (ps.drop j) ∧ Gj.right = true) := hA
   clear hA
   by_cases hlt : j < k
   ·
    have hlt' : (j : Int) < k := by omega
    obtain ⟨⟨ky, vl⟩, hp⟩ : ∃ x, Hid (ps[j]? = some x) := get_some (by rw [← HK.out]; exact hlt)
    obtain ⟨bb, oo, rfl, -, hc0, hc1, mk1, mk2⟩ := RQ.out.2.2 j (ky, vl) hp.out
    have z0 := cell_below HB hc0
    have z1 := cell_below HB hc1
    have cP : ∀ V, GrowAt V h q cp b1 e1 b2 e2 Gj → Calls Tryz.prog 33 #[.pointer (some ⟨h, 0, none⟩), .agg #[.string ky, .string vl]] V fun x w' => GrowC V x w' h q cp b1 b2 (putG Gj ky vl) := fun V g => growPut_any h q cp b1 e1 b2 e2 Gj ky vl V g HA.out.2 mk1 mk2
    obtain ⟨⟨E, Gn⟩, hE⟩ : ∃ x, Hid (x = putG Gj ky vl) := ⟨_, rfl⟩
    have hE' := hE.out
    rw [← hE'] at cP
    clear hE' hc0 hc1 mk1 mk2
    have hA2 : Below wr.heap.size wr (wr.alloc (.cells #[.string ky, .string vl] 50)) := (Below.refl _ _).alloc (Nat.le_refl _) _
    replace GA := GA.below hA2
    replace BO := BO.below hA2
    replace HB := Below.tr HB hA2
    have hs3 := BO.lt
    clear hA2
    by_cases h0 : E = 0
    ·
     subst h0
     go_wp2_with (go_at_call 33; refine (cP _ GA).mono ?_; rintro y w3 ⟨d1, g1, d2, g2, rfl, GA3, ⟨v1, v2⟩, T3⟩)
     go_roundw
     case rel =>
      refine ⟨j + 1, d1, g1, d2, g2, Gn, by omega, by go_num, ⟨?_, ?_⟩, GA3, ⟨?_, ?_⟩, BO.turns T3 (by unfold Mine; omega), Below.turns HB T3 (by unfold Mine; intro i; omega)⟩
      ·
       rw [HA.out.1]; exact allG_step hp.out hE.out.symm
      ·
       have := put_loose HA.out.2 ky vl
       rw [← hE.out] at this
       rcases this with ⟨h, _⟩ | ⟨_, (h | h) | h⟩
       ·
        have h' : (0 : Int) = 1 := h; omega
       ·
        have h' : (0 : Int) = 60 := h; omega
       ·
        have h' : (0 : Int) = 81 := h; omega
       ·
        exact h.2.1
      ·
       rcases v1 with rfl | v1
       ·
        exact F1
       ·
        exact v1.mono (by omega)
      ·
       rcases v2 with rfl | v2
       ·
        exact F2
       ·
        exact v2.mono (by omega)
     case measure => simp [intOf]; omega
    ·
     have hf : Hid (allG G ps = (E, WoodS.none)) := by
      show _ = _
      rw [HA.out.1, allG_stop hp.out (by rw [← hE.out]; exact h0), ← hE.out]
     have h0' : (E != 0) = true := by simpa using h0
     go_wp2_with (go_at_call 33; refine (cP _ GA).mono ?_; rintro y w3 ⟨d1, g1, d2, g2, rfl, GA3, ⟨v1, v2⟩, T3⟩; replace BO := BO.turns T3 (by unfold Mine; omega); replace HB := Below.turns HB T3 (by unfold Mine; intro i; omega); clear GA3 v1 v2 T3 z0 z1; obtain ⟨⟨y0, y1, y2, y3, y4⟩, f0, f1, f2, f3, f4⟩ := id BO; obtain ⟨z0, z1, z2, z3, z4⟩ := set5_box BO.1 (.slice none 0 0) (.slice none 0 0) (.slice none 0 0) (.int .i64 0) (.int .i64 0); unfold set5 at z0 z1 z2 z3 z4)
     rw [hf.out]
     refine bodyPost_ret (v := .tuple #[.agg #[.slice none 0 0, .slice none 0 0, .slice none 0 0, .int .i64 0, .int .i64 0], .int .i64 E]) (by simp [results, Tryz.results21, go_sem, z0, z1, z2, z3, z4]) rfl (allC_none E ?_)
     exact Below.turns HB (set5_turns (P := fun k => k = w.heap.size + 1) (Turns.refl _ _) rfl _ _ _ _ _) fun i e => by omega
   ·
    obtain rfl : k = j := by omega
    have hj0 : ¬ (k : Int) < k := by omega
    have hf : Hid (allG G ps = (0, Gj)) := by
     show _ = _
     rw [HA.out.1, HK.out]
     exact allG_end
    obtain ⟨x0, x1, x2, x3, x4⟩ := id GA.box
    obtain ⟨⟨y0, y1, y2, y3, y4⟩, f0, f1, f2, f3, f4⟩ := id BO
    obtain ⟨z0, z1, z2, z3, z4⟩ := set5_box BO.1 (.slice b1 Gj.base.length e1) (.slice b2 Gj.now.length e2) (.slice (some ⟨q, 0, none⟩) Gj.pages.length cp) (.int .i64 Gj.root) (.int .i64 Gj.gen)
    unfold set5 at z0 z1 z2 z3 z4
    go_wp2
    rw [hf.out]
    refine bodyPost_ret (v := .tuple #[.agg #[.slice b1 Gj.base.length e1, .slice b2 Gj.now.length e2, .slice (some ⟨q, 0, none⟩) Gj.pages.length cp, .int .i64 Gj.root, .int .i64 Gj.gen], .int .i64 0]) (by simp [results, Tryz.results21, go_sem, z0, z1, z2, z3, z4]) rfl ?_
    exact allC_some GA (F1.mono (by omega)) (F2.mono (by omega)) (by omega) (z := w.heap.size + 1) HB (set5_turns (P := fun k => k = w.heap.size + 1) (Turns.refl _ _) rfl _ _ _ _ _) (by omega) (fun x hx => by have := F1 x hx; omega) (fun x hx => by have := F2 x hx; omega) (by omega)
theorem allR_one (G : WoodS) (key val : ByteArray) : allR G [(key, val)] = if G.right = true then (if (putG G key val).1 = 0 then (0, (putG G key val).2) else ((putG G key val).1, WoodS.none)) else (1, WoodS.none) := by
 unfold allR
 split
 ·
  rw [allG]
  simp only
  split
  ·
   rw [allG]
  ·
   rfl
 ·
  rfl
set_option maxRecDepth 20000 in
set_option maxHeartbeats 4000000 in
theorem growPut1_any (a a' b : Option Addr) (c c' f : Nat) (G : WoodS) (key val : ByteArray) (w : World) (hB : IsB w a c G.base) (hB' : IsB w a' c' G.now) (hP : IsS w b f G.pages) (mk : key.size ≤ maxLen) (mv : val.size ≤ maxLen) :
  Calls Tryz.prog 11 #[.agg #[.slice a G.base.length c, .slice a' G.now.length c', .slice b G.pages.length f, .int .i64 G.root, .int .i64 G.gen], .string key, .string val] w fun e w' => AllC w e w' (allR G [(key, val)]) := by
 obtain ⟨n, hn⟩ : ∃ n, n = G.base.length := ⟨_, rfl⟩
 obtain ⟨n', hn'⟩ : ∃ n, n = G.now.length := ⟨_, rfl⟩
 obtain ⟨p, hp⟩ : ∃ n, n = G.pages.length := ⟨_, rfl⟩
 obtain ⟨W, hW⟩ : ∃ W, W = (w.alloc (.cells #[.slice a n c, .slice a' n' c', .slice b p f, .int .i64 G.root, .int .i64 G.gen] 27)).alloc (.cells #[.slice none 0 0, .slice none 0 0, .slice none 0 0, .int .i64 0, .int .i64 0] 27) := ⟨_, rfl⟩
 have BX : Box5 W w.heap.size (.slice a n c) (.slice a' n' c') (.slice b p f) (.int .i64 G.root) (.int .i64 G.gen) := by rw [hW]; exact (box5_new _ _ _ _ _ _ _ rfl).alloc _
 have BO : Box5 W (w.heap.size + 1) (.slice none 0 0) (.slice none 0 0) (.slice none 0 0) (.int .i64 0) (.int .i64 0) := by rw [hW]; exact box5_new _ _ _ _ _ _ _ (by simp)
 have HB : Below w.heap.size w W := by rw [hW]; exact ((Below.refl _ _).alloc (Nat.le_refl _) _).alloc (by simp) _
 have hWs : W.heap.size = w.heap.size + 1 + 1 := by rw [hW]; simp
 obtain ⟨x0, x1, x2, x3, x4⟩ := (hW ▸ BX).1
 obtain ⟨R, hR⟩ : ∃ R, R = allR G [(key, val)] := ⟨_, rfl⟩
 have cA : ∀ V g, Below w.heap.size w V → IsQ V (some ⟨g, 0, none⟩) 1 [(key, val)] → Calls Tryz.prog 21 #[.agg #[.slice a n c, .slice a' n' c', .slice b p f, .int .i64 G.root, .int .i64 G.gen], .slice (some ⟨g, 0, none⟩) 1 1] V fun e w' => AllC V e w' R := fun V g h hq => by
  rw [hn, hn', hp, hR]
  exact growAll_any a a' b _ c c' f 1 1 G [(key, val)] V rfl (hB.below h) (hB'.below h) (hP.below h) hq
 have hA2 : Below W.heap.size W (W.alloc (.cells #[.string key, .string val] 50)) := (Below.refl _ _).alloc (Nat.le_refl _) _
 have hQ : IsQ (W.alloc (.cells #[.string key, .string val] 50)) (some ⟨W.heap.size, 0, none⟩) 1 [(key, val)] := by
  obtain ⟨⟨p0, p1⟩, -⟩ := box2_new W (.string key) (.string val) 50 rfl
  refine ⟨Nat.le_refl _, by decide, fun j x hx => ?_⟩
  cases j with
  | succ j => simp at hx
  | zero =>
   cases hx
   exact ⟨W.heap.size, 0, rfl, by simp, by rw [Nat.zero_mul]; exact p0, by rw [Nat.zero_mul]; exact p1, mk, mv⟩
 rw [← hn, ← hn', ← hp, ← hR]
 replace BO := BO.below hA2
 replace HB := Below.tr HB hA2
 have cA' := cA _ _ HB hQ
 have hQs : Hid (w.heap.size + 3 = (W.alloc (.cells #[.string key, .string val] 50)).heap.size) := by show _ = _; simp; omega
 rw [hWs] at cA'
 obtain ⟨rE, rG⟩ := R
 clear hn hn' hp hB hB' hP cA hQ hR BX hA2 hWs
 go_enter Tryz.func11, Tryz.ntmps11
 go_wp2_with (go_at_call 21; rw [← hW]; refine cA'.mono ?_; rintro y w1 ⟨a1, c1, a2, c2, b3, c3, rfl, I, F, hb⟩; have hs := hQs.out; replace BO := BO.below hb; replace HB := Below.tr HB hb; clear hb x0 x1 x2 x3 x4; obtain ⟨⟨y0, y1, y2, y3, y4⟩, f0, f1, f2, f3, f4⟩ := id BO; obtain ⟨z0, z1, z2, z3, z4⟩ := set5_box BO.1 (.slice a1 rG.base.length c1) (.slice a2 rG.now.length c2) (.slice b3 rG.pages.length c3) (.int .i64 rG.root) (.int .i64 rG.gen); unfold set5 at z0 z1 z2 z3 z4)
 refine bodyPost_ret (v := .tuple #[.agg #[.slice a1 rG.base.length c1, .slice a2 rG.now.length c2, .slice b3 rG.pages.length c3, .int .i64 rG.root, .int .i64 rG.gen], .int .i64 rE]) (by simp [results, Tryz.results11, go_sem, z0, z1, z2, z3, z4]) rfl ?_
 have t : Turns (fun k => k = w.heap.size + 1) w1 (set5 w1 (w.heap.size + 1) (.slice a1 rG.base.length c1) (.slice a2 rG.now.length c2) (.slice b3 rG.pages.length c3) (.int .i64 rG.root) (.int .i64 rG.gen)) := set5_turns (P := fun k => k = w.heap.size + 1) (Turns.refl _ _) rfl _ _ _ _ _
 rw [← hs] at F
 exact ⟨a1, c1, a2, c2, b3, c3, rfl, ⟨I.1.turns t (fun x hx => by have := F.1 x hx; omega), I.2.1.turns t (fun x hx => by have := F.2.1 x hx; omega), I.2.2.turns t (fun x hx => by have := F.2.2 x hx; omega)⟩, ⟨F.1.mono (by omega), F.2.1.mono (by omega), F.2.2.mono (by omega)⟩, Below.turns HB t fun i e => by omega⟩
theorem push_T (W : World) (base : Nat) (v : Value) (n : Nat) (l : List Bool) (x : Bool) (hown : W.ownsRow base 4 1 v n (l.map Value.bool)) (hb : base ≤ W.heap.size) (hn : n ≤ 4096) :
  ∃ g cap w', (Builtin.append_ #[22, 22] 22 #[v, .slice (some ⟨W.heap.size, 0, none⟩) 1 1]).run Tryz.prog (W.alloc (.cells #[.bool x] 4)) = .ok (.slice (some ⟨g, 0, none⟩) (n + 1) cap) w' ∧
   w'.ownsRow base 4 1 (.slice (some ⟨g, 0, none⟩) (n + 1) cap) (n + 1) ((l ++ [x]).map Value.bool) ∧ (W.alloc (.cells #[.bool x] 4)).grownBy w' v.ownBlock ∧ (v.ownBlock = some g ∨ g = W.heap.size + 1) ∧ base ≤ g := by
 obtain ⟨i0, hi, hz0, hz1, hz2⟩ := info_parts Tryz.info4
 obtain ⟨g, cap, w', h1, h2, h3, h4, h5⟩ := run_append_lies (P := Tryz.prog) (W.alloc (.cells #[.bool x] 4)) 22 22 base 4 i0 _ 1 1 Tryz.underlying22 hi hz0 hz1 hz2 rfl (by decide) v n (l.map Value.bool) (hown.alloc _) ⟨W.heap.size, 0, none⟩ 1 1 [.bool x] rfl
  (by
   intro j u hj
   match j, hj with
   | 0, hj => simp at hj; subst hj; rw [at_add]; exact World.cell?_alloc_at _ _ _ _ rfl)
  (by intro u hu; simp at hu; subst hu; rfl) (by omega) (by unfold maxLen; omega) (by omega) (by simp; omega) (W.heap.size + 1) (by simp)
 refine ⟨g, cap, w', h1, by rw [List.map_append]; exact h2, h3, h4, ?_⟩
 obtain ⟨g', cap', he, hb', _⟩ := h2.form (by omega)
 cases he
 exact hb'
theorem own_span {w : World} {base : Nat} {e : TypeId} {s n : Nat} {v : Value} {xs : List Value} (h : w.ownsRow base e s v n xs) {g : Nat} (hg : v.ownBlock = some g) : base ≤ g ∧ g < w.heap.size := h.lt g hg
theorem Box2.grown {w w' : World} {row : Option Nat} {h : Nat} {v0 v1 : Value} (b : Box2 w h v0 v1) (hg : w.grownBy w' row) (hr : ∀ k, row = some k → h < k) : Box2 w' h v0 v1 := by
 have hl := b.lt
 have hb : w'.heap[h]? = w.heap[h]? := hg.block h hl (fun he => by have := hr h he.symm; omega)
 obtain ⟨⟨c0, c1⟩, f0, f1⟩ := b
 exact ⟨⟨by rw [World.cell?_of_block (w := w) hb]; exact c0, by rw [World.cell?_of_block (w := w) hb]; exact c1⟩, by rw [World.frozen?_of_block (w := w) hb]; exact f0, by rw [World.frozen?_of_block (w := w) hb]; exact f1⟩
theorem Box2.set0 {w : World} {h : Nat} {v0 v1 : Value} (b : Box2 w h v0 v1) (u : Value) : Box2 (w.setCell ⟨h, 0, none⟩ u) h u v1 := by
 obtain ⟨⟨c0, c1⟩, f0, f1⟩ := b
 refine ⟨⟨World.cell?_setCell_same _ _ _ c0, ?_⟩, by simpa using f0, by simpa using f1⟩
 rw [World.cell?_setCell_other _ _ _ _ (fun hh => by cases hh)]; exact c1
theorem Box2.set1 {w : World} {h : Nat} {v0 v1 : Value} (b : Box2 w h v0 v1) (u : Value) : Box2 (w.setCell ⟨h, 1, none⟩ u) h v0 u := by
 obtain ⟨⟨c0, c1⟩, f0, f1⟩ := b
 refine ⟨⟨?_, World.cell?_setCell_same _ _ _ c1⟩, by simpa using f0, by simpa using f1⟩
 rw [World.cell?_setCell_other _ _ _ _ (fun hh => by cases hh)]; exact c0
theorem own_below {w : World} {B : Nat} {e : TypeId} {n h i m : Nat} {v : Value} {xs : List Value} {u : Value} (hr : w.ownsRow B e m v n xs) (hh : h < B) : (w.setCell ⟨h, i, none⟩ u).ownsRow B e m v n xs :=
 ownsRow_setCell_below hr (a := ⟨h, i, none⟩) hh u
theorem ownT_of {w : World} {base : Nat} {v : Value} {n : Nat} {l : List Bool} (hl : l.length = n) (h : w.ownsRow base 4 1 v n (l.map Value.bool)) : ∃ a c, v = .slice a n c ∧ OwnT base w a c l := by
 subst hl
 rcases ownsRow_T h with ⟨rfl, rfl⟩ | ⟨g, cap, rfl, hg, hr⟩
 ·
  exact ⟨none, 0, rfl, OwnT_nil _ _⟩
 ·
  exact ⟨_, _, rfl, .inr ⟨g, rfl, hg, hr⟩⟩
set_option maxRecDepth 20000 in
set_option maxHeartbeats 4000000 in
theorem allocRefNewF_any (n : Nat) (w : World) (hn : n ≤ 2048) :
  Calls Tryz.prog 35 #[.int .i64 n] w fun e w' => ∃ a1 c1 a2 c2, e = .returned (.agg #[.slice a1 n c1, .slice a2 n c2]) ∧ OwnT w.heap.size w' a1 c1 (freshL n) ∧ OwnT w.heap.size w' a2 c2 (freshL n) ∧ Below w.heap.size w w' := by
 obtain ⟨W, hW⟩ : ∃ W, W = (w.alloc (.cells #[.slice none 0 0, .slice none 0 0] 24)).alloc (.cells #[.slice none 0 0, .slice none 0 0] 24) := ⟨_, rfl⟩
 obtain ⟨hB0, hWs, bo, bi⟩ := two_box2 hW
 go_enter Tryz.func35, Tryz.ntmps35
 go_wp2
 rw [← hW]
 go_loopw [4] (fun v wr => ∃ (j : Nat) (v0 v1 : Value), j ≤ n ∧ v = .int .i64 j ∧ Box2 wr w.heap.size (.slice none 0 0) (.slice none 0 0) ∧ Box2 wr (w.heap.size + 1) v0 v1 ∧ wr.ownsRow (w.heap.size + 2) 4 1 v0 j ((freshL j).map Value.bool) ∧ wr.ownsRow (w.heap.size + 2) 4 1 v1 j ((freshL j).map Value.bool) ∧ (∀ g, v0.ownBlock = some g → v1.ownBlock ≠ some g) ∧ Below w.heap.size w wr ∧ w.heap.size + 2 ≤ wr.heap.size) (fun v _ => n - (intOf v).toNat)
 case atStart =>
  refine ⟨0, .slice none 0 0, .slice none 0 0, by omega, rfl, bo, bi, ⟨rfl, .inl ⟨rfl, rfl⟩⟩, ⟨rfl, .inl ⟨rfl, rfl⟩⟩, fun g hg => (by simp [Value.ownBlock] at hg), hB0, by omega⟩
 case round =>
  obtain ⟨j, v0, v1, hj, rfl, box, bix, hr0, hr1, hap, hbel, hsz⟩ := hrel
  by_cases hlt : j < n
  ·
   have hlt' : (j : Int) < n := by omega
   obtain ⟨x, hx⟩ : ∃ x, x = decide ((j : Int) < 10) := ⟨_, rfl⟩
   have hnx : freshL (j + 1) = freshL j ++ [x] := by rw [freshL_succ, hx]; congr 2; rw [decide_eq_decide]; omega
   obtain ⟨g0, cap0, w1, run0, own0, gr0, at0, ge0⟩ := push_T wr (w.heap.size + 2) v0 j (freshL j) x hr0 hsz (by omega)
   have hrow0 : ∀ k, v0.ownBlock = some k → w.heap.size + 1 < k := fun k hk => by have := (own_span hr0 hk).1; omega
   have box1 : Box2 w1 w.heap.size (.slice none 0 0) (.slice none 0 0) := (box.alloc _).grown gr0 (fun k hk => by have := hrow0 k hk; omega)
   have bix1 : Box2 w1 (w.heap.size + 1) v0 v1 := (bix.alloc _).grown gr0 hrow0
   have hr1' : w1.ownsRow (w.heap.size + 2) 4 1 v1 j ((freshL j).map Value.bool) := (hr1.alloc _).kept gr0 (by
    cases h : v1.ownBlock with
    | none => exact .inl rfl
    | some k => exact .inr (fun he => hap k he.symm h))
   have hap1 : ∀ k, v1.ownBlock = some k → k ≠ g0 := by
    intro k hk he
    subst he
    rcases at0 with h | h
    ·
     exact hap k h hk
    ·
     have := (own_span hr1 hk).2; omega
   have hb1 : Below w.heap.size w w1 := (hbel.alloc (by omega) _).grown gr0 (by simp; omega) (fun k hk => by have := hrow0 k hk; omega)
   have hsz1 : w.heap.size + 2 ≤ w1.heap.size := by have := (own_span own0 rfl).2; have := gr0.size; simp at this; omega
   obtain ⟨W2, hW2⟩ : ∃ W2, W2 = w1.setCell ⟨w.heap.size + 1, 0, none⟩ (.slice (some ⟨g0, 0, none⟩) (j + 1) cap0) := ⟨_, rfl⟩
   have own0' : W2.ownsRow (w.heap.size + 2) 4 1 (.slice (some ⟨g0, 0, none⟩) (j + 1) cap0) (j + 1) ((freshL j ++ [x]).map Value.bool) := by rw [hW2]; exact own_below own0 (by omega)
   have hr1'' : W2.ownsRow (w.heap.size + 2) 4 1 v1 j ((freshL j).map Value.bool) := by rw [hW2]; exact own_below hr1' (by omega)
   have box2 : Box2 W2 w.heap.size (.slice none 0 0) (.slice none 0 0) := by
    rw [hW2]
    refine ⟨⟨?_, ?_⟩, by simpa using box1.2.1, by simpa using box1.2.2⟩
    ·
     rw [World.cell?_setCell_other _ _ _ _ (fun hh => absurd (congrArg Addr.block hh) (by simp))]; exact box1.1.1
    ·
     rw [World.cell?_setCell_other _ _ _ _ (fun hh => absurd (congrArg Addr.block hh) (by simp))]; exact box1.1.2
   have bix2 : Box2 W2 (w.heap.size + 1) (.slice (some ⟨g0, 0, none⟩) (j + 1) cap0) v1 := by rw [hW2]; exact bix1.set0 _
   have hb2 : Below w.heap.size w W2 := by rw [hW2]; exact hb1.setCell (p := ⟨w.heap.size + 1, 0, none⟩) (Nat.le_succ _) _
   have hsz2 : w.heap.size + 2 ≤ W2.heap.size := by rw [hW2]; simpa using hsz1
   have g0lt : g0 < W2.heap.size := (own_span own0' rfl).2
   obtain ⟨g1, cap1, w3, run1, own1, gr1, at1, ge1⟩ := push_T W2 (w.heap.size + 2) v1 j (freshL j) x hr1'' hsz2 (by omega)
   have hrow1 : ∀ k, v1.ownBlock = some k → w.heap.size + 1 < k := fun k hk => by have := (own_span hr1'' hk).1; omega
   have box3 : Box2 w3 w.heap.size (.slice none 0 0) (.slice none 0 0) := (box2.alloc _).grown gr1 (fun k hk => by have := hrow1 k hk; omega)
   have bix3 : Box2 w3 (w.heap.size + 1) (.slice (some ⟨g0, 0, none⟩) (j + 1) cap0) v1 := (bix2.alloc _).grown gr1 hrow1
   have own0'' : w3.ownsRow (w.heap.size + 2) 4 1 (.slice (some ⟨g0, 0, none⟩) (j + 1) cap0) (j + 1) ((freshL j ++ [x]).map Value.bool) := (own0'.alloc _).kept gr1 (.inr (fun he => hap1 g0 he.symm rfl))
   have hne : g0 ≠ g1 := by
    intro he
    rcases at1 with h | h
    ·
     exact hap1 g1 h he.symm
    ·
     omega
   have hb3 : Below w.heap.size w w3 := (hb2.alloc (by omega) _).grown gr1 (by simp; omega) (fun k hk => by have := hrow1 k hk; omega)
   have hsz3 : w.heap.size + 2 ≤ w3.heap.size := by have := gr1.size; simp at this; omega
   obtain ⟨⟨q0, q1⟩, f0, f1⟩ := bix
   have HF : Hid (∃ (v0 v1 : Value), Box2 (w3.setCell ⟨w.heap.size + 1, 1, none⟩ (.slice (some ⟨g1, 0, none⟩) (j + 1) cap1)) w.heap.size (.slice none 0 0) (.slice none 0 0) ∧ Box2 (w3.setCell ⟨w.heap.size + 1, 1, none⟩ (.slice (some ⟨g1, 0, none⟩) (j + 1) cap1)) (w.heap.size + 1) v0 v1 ∧ (w3.setCell ⟨w.heap.size + 1, 1, none⟩ (.slice (some ⟨g1, 0, none⟩) (j + 1) cap1)).ownsRow (w.heap.size + 2) 4 1 v0 (j + 1) ((freshL (j + 1)).map Value.bool) ∧ (w3.setCell ⟨w.heap.size + 1, 1, none⟩ (.slice (some ⟨g1, 0, none⟩) (j + 1) cap1)).ownsRow (w.heap.size + 2) 4 1 v1 (j + 1) ((freshL (j + 1)).map Value.bool) ∧ (∀ g, v0.ownBlock = some g → v1.ownBlock ≠ some g) ∧ Below w.heap.size w (w3.setCell ⟨w.heap.size + 1, 1, none⟩ (.slice (some ⟨g1, 0, none⟩) (j + 1) cap1)) ∧ w.heap.size + 2 ≤ (w3.setCell ⟨w.heap.size + 1, 1, none⟩ (.slice (some ⟨g1, 0, none⟩) (j + 1) cap1)).heap.size) := by
    refine ⟨.slice (some ⟨g0, 0, none⟩) (j + 1) cap0, .slice (some ⟨g1, 0, none⟩) (j + 1) cap1, ?_, bix3.set1 _, by rw [hnx]; exact own_below own0'' (by omega), by rw [hnx]; exact own_below own1 (by omega), ?_, hb3.setCell (p := ⟨w.heap.size + 1, 1, none⟩) (Nat.le_succ _) _, by simpa using hsz3⟩
    ·
     refine ⟨⟨?_, ?_⟩, by simpa using box3.2.1, by simpa using box3.2.2⟩
     ·
      rw [World.cell?_setCell_other _ _ _ _ (fun hh => absurd (congrArg Addr.block hh) (by simp))]; exact box3.1.1
     ·
      rw [World.cell?_setCell_other _ _ _ _ (fun hh => absurd (congrArg Addr.block hh) (by simp))]; exact box3.1.2
    ·
     intro g h1 h2
     simp [Value.ownBlock] at h1 h2
     omega
   obtain ⟨⟨k0, k1⟩, k2, k3⟩ := bix1
   obtain ⟨⟨s0, s1⟩, s2, s3⟩ := bix3
   have hs2 : W2.heap.size = w1.heap.size := by rw [hW2]; simp
   rw [hs2, hW2] at run1
   have t1 : True := trivial
   clear hr0 hr1 hap hbel hsz own0 gr0 at0 box1 hr1' hap1 hb1 hsz1 own0' hr1'' box2 bix2 hb2 hsz2 g0lt own1 gr1 at1 box3 own0'' hb3 hsz3 hrow0 hrow1 hnx hW2 hs2 box ge0 ge1 hne
   by_cases h10 : (j : Int) < 10
   ·
    obtain rfl : x = true := by rw [hx]; simp [h10]
    clear hx
    go_wp2_with (first
     | (at_builtin; have _t := t1; refine Lib.wpList_append_run _ rfl _ _ _ _ rfl _ _ rfl rfl _ _ run0 ?_; clear t1)
     | (at_builtin; refine Lib.wpList_append_run _ rfl _ _ _ _ rfl _ _ rfl rfl _ _ run1 ?_))
    go_roundw
    case rel =>
     obtain ⟨u0, u1, hh⟩ := HF.out
     exact ⟨j + 1, u0, u1, by omega, by go_num, hh⟩
    case measure => simp [intOf]; omega
   ·
    obtain rfl : x = false := by rw [hx]; simp [h10]
    clear hx
    go_wp2_with (first
     | (at_builtin; have _t := t1; refine Lib.wpList_append_run _ rfl _ _ _ _ rfl _ _ rfl rfl _ _ run0 ?_; clear t1)
     | (at_builtin; refine Lib.wpList_append_run _ rfl _ _ _ _ rfl _ _ rfl rfl _ _ run1 ?_))
    go_roundw
    case rel =>
     obtain ⟨u0, u1, hh⟩ := HF.out
     exact ⟨j + 1, u0, u1, by omega, by go_num, hh⟩
    case measure => simp [intOf]; omega
  ·
   obtain rfl : j = n := by omega
   obtain ⟨a1, c1, rfl, O1⟩ := ownT_of (freshL_length j) hr0
   obtain ⟨a2, c2, rfl, O2⟩ := ownT_of (freshL_length j) hr1
   obtain ⟨⟨q0, q1⟩, -, -⟩ := bix
   obtain ⟨⟨r0, r1⟩, f0, f1⟩ := box
   have H1 : Hid (OwnT (w.heap.size + 2) wr a1 c1 (freshL j)) := O1
   have H2 : Hid (OwnT (w.heap.size + 2) wr a2 c2 (freshL j)) := O2
   clear hr0 hr1 hap O1 O2
   go_wp2
   refine bodyPost_ret (v := .agg #[.slice a1 j c1, .slice a2 j c2]) (by simp [results, Tryz.results35, go_sem, r0, r1]) rfl ⟨a1, c1, a2, c2, rfl, ?_, ?_, below_set2 hbel (Nat.le_refl _)⟩
   ·
    exact ((H1.out.store (by omega) _ _).store (by omega) _ _).mono (by omega)
   ·
    exact ((H2.out.store (by omega) _ _).store (by omega) _ _).mono (by omega)
end Go.Proofs.YtaecfbfcjaailaaGreat
namespace Go.Proofs.YtaecfbfcjaailaaGreat
open Go.RowKit Plain
open Anylast
set_option linter.unusedVariables false
def emptyM (n : Int) : Nat := (min (max n 24) 200).toNat
def emptyG (m : Nat) : WoodS := ⟨freshL m, freshL m, List.replicate m ⟨#[]⟩, 0, 1⟩
theorem emptyM_in (n : Int) : 24 ≤ emptyM n ∧ emptyM n ≤ 200 ∧ ((emptyM n : Nat) : Int) = min (max n 24) 200 := by
 unfold emptyM
 omega
def EmpV (B m : Nat) (u : Value) (X : World) : Prop :=
 ∃ a1 c1 a2 c2 g, u = .agg #[.slice a1 m c1, .slice a2 m c2, .slice (some ⟨g, 0, none⟩) m m, .int .i64 0, .int .i64 1] ∧ OwnT B X a1 c1 (freshL m) ∧ OwnT B X a2 c2 (freshL m) ∧ IsS X (some ⟨g, 0, none⟩) m (List.replicate m ⟨#[]⟩) ∧ B ≤ g ∧ g < X.heap.size
theorem EmpV.turns {P : Nat → Prop} {B m : Nat} {u : Value} {X Y : World} (h : EmpV B m u X) (t : Turns P X Y) (hp : ∀ i, P i → i < B) : EmpV B m u Y := by
 obtain ⟨a1, c1, a2, c2, g, e, o1, o2, i3, hg, gl⟩ := h
 exact ⟨a1, c1, a2, c2, g, e, o1.turns t hp, o2.turns t hp, i3.turns t (fun x hx k => by cases hx; have h1 : g < B := hp _ k; omega), hg, Nat.lt_of_lt_of_le gl t.size⟩
def empVal (B m : Nat) (i : Nat) (v : Value) (X : World) : Prop :=
 match i with
 | 0 | 2 => v = .int .i64 m
 | 1 => ∃ a1 c1 a2 c2, v = .agg #[.slice a1 m c1, .slice a2 m c2] ∧ OwnT B X a1 c1 (freshL m) ∧ OwnT B X a2 c2 (freshL m)
 | 3 => ∃ g, v = .slice (some ⟨g, 0, none⟩) m m ∧ IsS X (some ⟨g, 0, none⟩) m (List.replicate m ⟨#[]⟩) ∧ B ≤ g ∧ g < X.heap.size
 | 4 => EmpV B m v X
 | _ => True
def EmpS (h m : Nat) (W : World) (k : Nat) (X : World) : Prop :=
 ∃ v0 v1 v2 v3 v4, Box5 X h v0 v1 v2 v3 v4 ∧ (1 ≤ k → EmpV (h + 1) m (.agg #[v0, v1, v2, v3, v4]) X) ∧ Turns (fun k => k = h) W X
theorem EmpS.lo {h m k : Nat} {W X : World} (s : EmpS h m W k X) : Turns (fun k => k = h) W X := by
 obtain ⟨_, _, _, _, _, _, _, t⟩ := s
 exact t
theorem EmpS.below {h m k : Nat} {W X Y : World} (s : EmpS h m W k X) (hb : Below X.heap.size X Y) : EmpS h m W k Y := by
 obtain ⟨v0, v1, v2, v3, v4, b, f, t⟩ := s
 exact ⟨v0, v1, v2, v3, v4, b.below hb, fun hk => (f hk).turns (P := fun _ => False) (Turns.of_below hb) (fun _ => False.elim), t.tr hb⟩
theorem EmpS.put {h m k : Nat} {W X : World} {a1 : Option Addr} {c1 : Nat} {a2 : Option Addr} {c2 g : Nat} (s : EmpS h m W k X)
  (hv : OwnT (h + 1) X a1 c1 (freshL m) ∧ OwnT (h + 1) X a2 c2 (freshL m) ∧ IsS X (some ⟨g, 0, none⟩) m (List.replicate m ⟨#[]⟩) ∧ h + 1 ≤ g ∧ g < X.heap.size) :
  EmpS h m W (k + 1) (set5 X h (.slice a1 m c1) (.slice a2 m c2) (.slice (some ⟨g, 0, none⟩) m m) (.int .i64 0) (.int .i64 1)) := by
 obtain ⟨v0, v1, v2, v3, v4, b, f, t⟩ := s
 have t2 : Turns (fun k => k = h) X (set5 X h (.slice a1 m c1) (.slice a2 m c2) (.slice (some ⟨g, 0, none⟩) m m) (.int .i64 0) (.int .i64 1)) := set5_turns (P := fun k => k = h) (Turns.refl _ _) rfl _ _ _ _ _
 have e : EmpV (h + 1) m (.agg #[.slice a1 m c1, .slice a2 m c2, .slice (some ⟨g, 0, none⟩) m m, .int .i64 0, .int .i64 1]) X := ⟨a1, c1, a2, c2, g, rfl, hv⟩
 obtain ⟨bx, f0, f1, f2, f3, f4⟩ := b
 refine ⟨_, _, _, _, _, ⟨set5_box bx _ _ _ _ _, ?_, ?_, ?_, ?_, ?_⟩, fun _ => e.turns t2 (fun i hi => by omega), t.trans t2⟩
 ·
  unfold set5; simpa using f0
 ·
  unfold set5; simpa using f1
 ·
  unfold set5; simpa using f2
 ·
  unfold set5; simpa using f3
 ·
  unfold set5; simpa using f4
theorem isS_made (W : World) (n g : Nat) (Z : Array Value) (hZ : Z = (List.replicate n (Value.string ⟨#[]⟩)).toArray) (hn : n ≤ maxLen) (hg : g = W.heap.size) : IsS (W.alloc (.cells Z 9)) (some ⟨g, 0, none⟩) n (List.replicate n ⟨#[]⟩) := by
 subst hg hZ
 refine ⟨by simp, hn, fun j x hx => ?_⟩
 obtain ⟨hj, hx'⟩ := List.getElem?_eq_some_iff.1 hx
 have hx2 : x = ⟨#[]⟩ := by rw [List.getElem_replicate] at hx'; exact hx'.symm
 subst hx2
 simp at hj
 have hc : (W.alloc (.cells (List.replicate n (Value.string ⟨#[]⟩)).toArray 9)).cell? ⟨W.heap.size, j, none⟩ = some (.string ⟨#[]⟩) := (World.cell?_alloc_at _ _ _ _ rfl).trans (show (List.replicate n (Value.string ⟨#[]⟩)).toArray[j]? = some (.string ⟨#[]⟩) by simp [hj])
 exact ⟨W.heap.size, 0, rfl, by simp, by rw [Nat.zero_add]; exact hc, Nat.zero_le _⟩
def EmptyC (w : World) (e : Ending) (w' : World) (m : Nat) : Prop :=
 ∃ a1 c1 a2 c2 b3 c3, e = .returned (.agg #[.slice a1 m c1, .slice a2 m c2, .slice b3 m c3, .int .i64 0, .int .i64 1]) ∧ (IsB w' a1 c1 (freshL m) ∧ IsB w' a2 c2 (freshL m) ∧ IsS w' b3 c3 (List.replicate m ⟨#[]⟩)) ∧ Below w.heap.size w w'
set_option maxRecDepth 20000 in
set_option maxHeartbeats 4000000 in
theorem empty_any (n : Int) (w : World) (hwf : IntKind.i64.wrap n = n) :
  Calls Tryz.prog 23 #[.int .i64 n] w fun e w' => EmptyC w e w' (emptyM n) := by
 obtain ⟨h24, h200, hm⟩ := emptyM_in n
 generalize emptyM n = m at *
 have r1 := max_run (x := n) (y := 24) rfl
 have r2 := min_run hm.symm
 have wm : IntKind.i64.wrap (m : Int) = (m : Int) := i64_in _ (by omega) (by omega)
 obtain ⟨W, hW⟩ : ∃ W, W = w.alloc (.cells #[.slice none 0 0, .slice none 0 0, .slice none 0 0, .int .i64 0, .int .i64 0] 27) := ⟨_, rfl⟩
 have BO : Box5 W w.heap.size (.slice none 0 0) (.slice none 0 0) (.slice none 0 0) (.int .i64 0) (.int .i64 0) := by rw [hW]; exact box5_new _ _ _ _ _ _ _ (by simp)
 have HB : Below w.heap.size w W := by rw [hW]; exact (Below.refl _ _).alloc (Nat.le_refl _) _
 have hWs : W.heap.size = w.heap.size + 1 := by rw [hW]; simp
 obtain ⟨V0, hV0⟩ : ∃ X, X = W.drew := ⟨_, rfl⟩
 have hD0 : Below W.heap.size W V0 := by rw [hV0]; exact (Below.refl _ _).drew
 have hVs : V0.heap.size = w.heap.size + 1 := by rw [hV0]; exact hWs
 have hBV := Below.tr HB hD0
 obtain ⟨Z, hmk, hZ⟩ : ∃ Z : Array Value, (∀ W : World, (Instr.makeSlice 25 (.int .i64 m) (.int .i64 m)).run Tryz.prog W = .ok (.slice (some ⟨W.heap.size, 0, none⟩) m m) (W.alloc (.cells Z 9))) ∧ Hid (Z = (List.replicate m (Value.string ⟨#[]⟩)).toArray) :=
  ⟨madeCells #[.string ⟨#[]⟩] m, fun W => run_make_row' (P := Tryz.prog) 25 9 (.string ⟨#[]⟩) 16 Tryz.underlying25 Tryz.info9 rfl .i64 .i64 m (by omega) (by omega) W, made_one _ m⟩
 have cM : ∀ X : World, V0.heap.size ≤ X.heap.size → empVal (w.heap.size + 1) m 3 (.slice (some ⟨X.heap.size, 0, none⟩) m m) (X.alloc (.cells Z 9)) := fun X hX => ⟨X.heap.size, rfl, isS_made X m _ Z hZ.out (by unfold maxLen; omega) rfl, by omega, by simp⟩
 have cN : ∀ X, V0.heap.size ≤ X.heap.size → Calls Tryz.prog 35 #[.int .i64 m] X fun e w' => ∃ v, e = .returned v ∧ empVal (w.heap.size + 1) m 1 v w' ∧ Below X.heap.size X w' := fun X hX =>
  (allocRefNewF_any m X (by omega)).mono fun e w' hx => by
   obtain ⟨a1, c1, a2, c2, rfl, o1, o2, hb⟩ := hx
   exact ⟨_, rfl, ⟨a1, c1, a2, c2, rfl, o1.mono (by omega), o2.mono (by omega)⟩, hb⟩
 have S0 : EmpS w.heap.size m V0 0 V0 := ⟨_, _, _, _, _, BO.below hD0, fun h => by omega, Turns.refl _ _⟩
 clear hm hWs
 go_enter Tryz.func23, Tryz.ntmps23
 go_wp2
 rw [← hW]
 refine region_chain (by kernel_rfl) [5] (empVal (w.heap.size + 1) m) (EmpS w.heap.size m V0) (Turns (fun k => k = w.heap.size)) (by kernel_rfl) (by kernel_rfl) ?mono (by rw [← hV0]; exact S0) ?step 6 rfl ?done
 case mono =>
  intro i v X Y t hv
  unfold empVal at hv ⊢
  split at hv
  ·
   exact hv
  ·
   exact hv
  ·
   obtain ⟨a1, c1, a2, c2, e, o1, o2⟩ := hv
   exact ⟨a1, c1, a2, c2, e, o1.turns t (fun i e => by omega), o2.turns t (fun i e => by omega)⟩
  ·
   obtain ⟨g, e, i3, hg, gl⟩ := hv
   exact ⟨g, e, i3.turns t (fun x hx k => by cases hx; simp only at k; omega), hg, Nat.lt_of_lt_of_le gl t.size⟩
  ·
   exact EmpV.turns hv t (fun i e => by omega)
  ·
   trivial
 case step =>
  clear hW hV0 hD0 hBV S0 BO HB hVs
  intro i oo ho k a9 X hk6 hmay hS hdf hsz hdep hsame
  match i, ho with
  | 0, ho =>
   cases ho
   have h0 := hsame 0 rfl
   exact op_value rfl (wanted_free rfl) (by clear hdep hsame hsz hdf; go_simp) rfl (by rw [if_neg (by decide)]; exact hS) (Turns.refl _ _)
  | 1, ho =>
   cases ho
   obtain ⟨_, h6, rfl⟩ := hdep 0 _ 6 rfl rfl rfl
   exact op_call rfl (wanted_free rfl) (by clear hdep hsame hsz hdf; go_simp) ((cN X (hS.lo.size)).mono fun e X' hx => by
    obtain ⟨v, he, hv, hb⟩ := hx
    exact ⟨v, he, hv, by rw [if_neg (by decide)]; exact hS.below hb, Turns.of_below hb⟩)
  | 2, ho =>
   cases ho
   have h0 := hsame 0 rfl
   exact op_value rfl (wanted_free rfl) (by clear hdep hsame hsz hdf; go_simp) rfl (by rw [if_neg (by decide)]; exact hS) (Turns.refl _ _)
  | 3, ho =>
   cases ho
   obtain ⟨_, h8, rfl⟩ := hdep 2 _ 8 rfl rfl rfl
   have hA := (Below.refl X.heap.size X).alloc (Nat.le_refl _) (.cells Z 9)
   have hx := hmk X
   exact op_value (w' := X.alloc (.cells Z 9)) rfl (wanted_free rfl) (by clear hdep hsame hsz hdf; go_simp) (cM X hS.lo.size) (by rw [if_neg (by decide)]; exact hS.below hA) (Turns.of_below hA)
  | 4, ho =>
   cases ho
   obtain ⟨_, h7, ⟨a1, c1, a2, c2, rfl, o1, o2⟩⟩ := hdep 1 _ 7 rfl rfl rfl
   obtain ⟨_, h9, ⟨g, rfl, i3, hg, gl⟩⟩ := hdep 3 _ 9 rfl rfl rfl
   exact op_value rfl (wanted_free rfl) (by clear hdep hsame hsz hdf; go_simp) ⟨a1, c1, a2, c2, g, rfl, o1, o2, i3, hg, gl⟩ (by rw [if_neg (by decide)]; exact hS) (Turns.refl _ _)
  | 5, ho =>
   cases ho
   have h2 := hsame 2 rfl
   obtain ⟨_, h10, ⟨a1, c1, a2, c2, g, rfl, oo⟩⟩ := hdep 4 _ 10 rfl rfl rfl
   have hS2 := hS.put oo
   obtain ⟨v0, v1, v2, v3, v4, bx, -, tt⟩ := id hS
   obtain ⟨⟨x0, x1, x2, x3, x4⟩, f0, f1, f2, f3, f4⟩ := bx
   have hT : Turns (fun k => k = w.heap.size) X (set5 X w.heap.size (.slice a1 m c1) (.slice a2 m c2) (.slice (some ⟨g, 0, none⟩) m m) (.int .i64 0) (.int .i64 1)) := set5_turns (P := fun k => k = w.heap.size) (Turns.refl _ _) rfl _ _ _ _ _
   unfold set5 at hT hS2
   exact op_skip (w' := ((((X.setCell ⟨w.heap.size, 0, none⟩ (.slice a1 m c1)).setCell ⟨w.heap.size, 1, none⟩ (.slice a2 m c2)).setCell ⟨w.heap.size, 2, none⟩ (.slice (some ⟨g, 0, none⟩) m m)).setCell ⟨w.heap.size, 3, none⟩ (.int .i64 0)).setCell ⟨w.heap.size, 4, none⟩ (.int .i64 1)) rfl (wanted_free rfl) rfl (by clear hdep hsame hsz hdf hS2 hT; go_simp) trivial (by rw [if_pos (by decide)]; exact hS2) hT
  | k + 6, ho => simp at ho
 case done =>
  intro val X hS hV
  clear hV cN cM S0 BO
  obtain ⟨v0, v1, v2, v3, v4, bx, ev, tt⟩ := hS
  obtain ⟨a1, c1, a2, c2, g, e, o1, o2, i3, hg, gl⟩ := ev (by decide)
  have HL : Hid (Below w.heap.size w X) := Below.turns hBV tt fun i e => by omega
  have HE : Hid (EmptyC w (.returned (.agg #[v0, v1, v2, v3, v4])) X m) := ⟨a1, c1, a2, c2, _, _, by rw [e], ⟨o1.isB, o2.isB, i3⟩, HL.out⟩
  obtain ⟨⟨x0, x1, x2, x3, x4⟩, -⟩ := bx
  clear ev e o1 o2 i3 hg gl tt
  simp [filledN]
  go_wp2
  refine bodyPost_ret (v := .agg #[v0, v1, v2, v3, v4]) (by simp [results, Tryz.results23, go_sem, x0, x1, x2, x3, x4]) rfl HE.out
theorem alive_plain : (allR (emptyG 24) [(⟨#[97]⟩, ⟨#[49]⟩)]).1 = 0 ∧ (allR (emptyG 24) [(⟨#[97]⟩, ⟨#[49]⟩)]).2.root = 10 ∧ (allR (emptyG 24) [(⟨#[97]⟩, ⟨#[49]⟩)]).2.pages.length = 24 := by decide +kernel
end Go.Proofs.YtaecfbfcjaailaaGreat
namespace Go.Proofs.YtaecfbfcjaailaaGreat
open Go.RowKit Plain
set_option linter.unusedVariables false
set_option maxRecDepth 20000 in
theorem small09_any (a a' b : Option Addr) (n c n' c' p f : Nat) (root gen : Int) (w : World) (hn : n' ≤ 9223372036854775807) (hp : p ≤ 9223372036854775807) :
  Calls Tryz.prog 9 #[.agg #[.slice a n c, .slice a' n' c', .slice b p f, .int .i64 root, .int .i64 gen]] w fun e w' => e = .returned (.bool (decide (n' ≤ 300) && decide (p ≤ 300))) ∧ Below w.heap.size w w' := by
 have HB : Below w.heap.size w (w.alloc (.cells #[.slice a n c, .slice a' n' c', .slice b p f, .int .i64 root, .int .i64 gen] 27)) := (Below.refl _ _).alloc (Nat.le_refl _) _
 obtain ⟨r, hr⟩ : ∃ r, r = (decide (n' ≤ 300) && decide (p ≤ 300)) := ⟨_, rfl⟩
 rw [← hr]
 by_cases h1 : n' ≤ 300
 ·
  have h1' : (n' : Int) ≤ 300 := by omega
  have hr' : Hid (r = decide ((p : Int) ≤ 300)) := by
   show _ = _
   rw [hr, decide_eq_true h1, Bool.true_and]
   exact decide_eq_decide.2 (by omega)
  clear hr h1
  go_enter Tryz.func9, Tryz.ntmps9
  go_wp2
  go_ret
  exact ⟨by rw [hr'.out]; rfl, HB⟩
 ·
  have h1' : ¬ (n' : Int) ≤ 300 := by omega
  have hr' : r = false := by rw [hr, decide_eq_false h1]; rfl
  clear hr h1
  go_enter Tryz.func9, Tryz.ntmps9
  go_wp2
  go_ret
  exact ⟨rfl, HB⟩
set_option maxRecDepth 20000 in
set_option maxHeartbeats 2000000 in
theorem alive09_any (w : World) : Calls Tryz.prog 10 #[] w fun e w' => e = .returned (.bool true) ∧ Below w.heap.size w w' := by
 have cE : Calls Tryz.prog 23 #[.int .i64 24] w fun e w' => EmptyC w e w' 24 := empty_any 24 w rfl
 have cP : ∀ V (a1 : Option Addr) (c1 : Nat) (a2 : Option Addr) (c2 : Nat) (b3 : Option Addr) (c3 : Nat), IsB V a1 c1 (freshL 24) → IsB V a2 c2 (freshL 24) → IsS V b3 c3 (List.replicate 24 ⟨#[]⟩) → Calls Tryz.prog 11 #[.agg #[.slice a1 24 c1, .slice a2 24 c2, .slice b3 24 c3, .int .i64 0, .int .i64 1], .string ⟨#[97]⟩, .string ⟨#[49]⟩] V fun e w' => AllC V e w' (allR (emptyG 24) [(⟨#[97]⟩, ⟨#[49]⟩)]) := fun V a1 c1 a2 c2 b3 c3 i1 i2 i3 =>
  growPut1_any a1 a2 b3 c1 c2 c3 (emptyG 24) ⟨#[97]⟩ ⟨#[49]⟩ V i1 i2 i3 (by decide) (by decide)
 obtain ⟨r1, r2, r3⟩ := alive_plain
 generalize allR (emptyG 24) [(⟨#[97]⟩, ⟨#[49]⟩)] = R at *
 obtain ⟨rE, ⟨rb, rn, rp, rr, rg⟩⟩ := R
 simp only at r1 r2 r3
 subst r1 r2
 have HR3 : Hid (rp.length = 24) := r3
 clear r3
 go_enter Tryz.func10, Tryz.ntmps10
 go_wp2_with (first
  | (go_at_call 23; refine cE.mono ?_; rintro y w1 ⟨a1, c1, a2, c2, b3, c3, rfl, ⟨i1, i2, i3⟩, HB⟩)
  | (go_at_call 11; refine (cP _ _ _ _ _ _ _ i1 i2 i3).mono ?_; rintro y w2 ⟨d1, k1, d2, k2, d3, k3, rfl, -, -, hb⟩; replace HB := (Below.tr HB hb).alloc (Below.tr HB hb).size (.cells #[.slice d1 rb.length k1, .slice d2 rn.length k2, .slice d3 24 k3, .int .i64 10, .int .i64 rg] 27); rw [HR3.out]; clear hb i1 i2 i3; obtain ⟨x0, x1, x2, x3, x4⟩ := woodBox_new w2 (.slice d1 rb.length k1) (.slice d2 rn.length k2) (.slice d3 24 k3) (.int .i64 10) (.int .i64 rg) 27 rfl))
 go_ret
 exact ⟨rfl, HB⟩
end Go.Proofs.YtaecfbfcjaailaaGreat
namespace Go.Proofs.YtaecfbfcjaailaaGreat
open Go.RowKit Plain Go.ChangeShapes Go.WideShapes
set_option linter.unusedVariables false
theorem array5 {α : Type} {cs : Array α} (h : cs.size = 5) : ∃ c0 c1 c2 c3 c4, cs = #[c0, c1, c2, c3, c4] := by
 rcases cs with ⟨l⟩
 match l, h with
 | [c0, c1, c2, c3, c4], _ => exact ⟨c0, c1, c2, c3, c4, rfl⟩
set_option maxRecDepth 20000 in
theorem open_wood {H : Type} {enc : TypeId × Value → H} {w : World} {r : Reach} {b0 : Nat} {v : Value} {d : DataW H} {p : List MemPlace}
  (hv : Value.okWide Tryz.prog w r b0 27 v) (h : DataW.Trod enc Tryz.prog w 0 (fun _ => true) true 27 v d p) :
  ∃ a c bs a' c' ns b f ps root gen, v = .agg #[.slice a bs.length c, .slice a' ns.length c', .slice b ps.length f, .int .i64 root, .int .i64 gen] ∧ IsB w a c bs ∧ IsB w a' c' ns ∧ IsS w b f ps ∧ (Lit.int .i64 root).wf = true ∧ (Lit.int .i64 gen).wf = true := by
 obtain ⟨cs, rfl, hsz⟩ := okWide_struct Tryz.underlying27 hv
 obtain ⟨c0, c1, c2, c3, c4, rfl⟩ := array5 (hsz.trans (by kernel_rfl))
 obtain ⟨fuel, hf⟩ := h
 obtain ⟨y0, y1, y2, y3, n, hx, _, h0, h1, h2, h3⟩ := Joins.trod_struct4 Tryz.underlying27 hf
 have s0 : Tryz.prog.cellsOf 24 = 2 := by kernel_rfl
 have s1 : Tryz.prog.cellsOf 25 = 1 := by kernel_rfl
 have s2 : Tryz.prog.cellsOf 3 = 1 := by kernel_rfl
 have s3 : Tryz.prog.cellsOf 22 = 1 := by kernel_rfl
 simp only [Value.cells, s0, s1, s2, List.drop_zero, List.drop_succ_cons, List.take_succ_cons, List.take_zero] at h0 h1 h2 h3
 obtain ⟨z0, z1, m, _, _, g0, g1⟩ := trod_struct2 Tryz.underlying24 h0
 simp only [s3, List.drop_zero, List.drop_succ_cons, List.take_succ_cons, List.take_zero] at g0 g1
 obtain ⟨a, c, bs, rfl, hB⟩ := open_B g0
 obtain ⟨a', c', ns, rfl, hB'⟩ := open_B g1
 obtain ⟨b, f, ps, rfl, hP⟩ := open_S h1
 obtain ⟨root, hr, _, wr⟩ := DataW.trod_int (k := .i64) Tryz.underlying3 h2
 obtain ⟨gen, hg, _, wg⟩ := DataW.trod_int (k := .i64) Tryz.underlying3 h3
 simp at hr hg
 subst hr hg
 exact ⟨a, c, bs, a', c', ns, b, f, ps, root, gen, rfl, hB, hB', hP, wr, wg⟩
end Go.Proofs.YtaecfbfcjaailaaGreat
namespace Go.Proofs.YtaecfbfcjaailaaGreat
open Go.RowKit Plain
set_option linter.unusedVariables false
def WoodL (V : World) (a : Option Addr) (n c : Nat) (a' : Option Addr) (n' c' : Nat) (b : Option Addr) (p f : Nat) (G : WoodS) : Prop :=
 n = G.base.length ∧ n' = G.now.length ∧ p = G.pages.length ∧ IsB V a c G.base ∧ IsB V a' c' G.now ∧ IsS V b f G.pages
section
variable {V V' : World} {a : Option Addr} {n c : Nat} {a' : Option Addr} {n' c' : Nat} {b : Option Addr} {p f : Nat} {G : WoodS}
theorem WoodL.below (x : WoodL V a n c a' n' c' b p f G) (hb : Below V.heap.size V V') : WoodL V' a n c a' n' c' b p f G :=
 ⟨x.1, x.2.1, x.2.2.1, x.2.2.2.1.below hb, x.2.2.2.2.1.below hb, x.2.2.2.2.2.below hb⟩
theorem WoodL.small (x : WoodL V a n c a' n' c' b p f G) : Calls Tryz.prog 9 #[.agg #[.slice a n c, .slice a' n' c', .slice b p f, .int .i64 G.root, .int .i64 G.gen]] V fun e w' => e = .returned (.bool (decide (n' ≤ 300) && decide (p ≤ 300))) ∧ Below V.heap.size V w' :=
 small09_any a a' b n c n' c' p f G.root G.gen V (by rw [x.2.1]; exact Nat.le_trans x.2.2.2.2.1.1 x.2.2.2.2.1.2.1) (by rw [x.2.2.1]; exact Nat.le_trans x.2.2.2.2.2.1 x.2.2.2.2.2.2.1)
theorem WoodL.right (x : WoodL V a n c a' n' c' b p f G) : Calls Tryz.prog 12 #[.agg #[.slice a n c, .slice a' n' c', .slice b p f, .int .i64 G.root, .int .i64 G.gen]] V fun e w' => e = .returned (.bool G.right) ∧ Below V.heap.size V w' :=
 refRightW_any a a' b n c n' c' p f G.base G.now G.pages G.root G.gen V x.1 x.2.1 x.2.2.1 x.2.2.2.1 x.2.2.2.2.1 x.2.2.2.2.2
def TreeC (V : World) (y : Ending) (w' : World) (t : TreeS) : Prop :=
 ∃ q d r k, y = .returned (.pointer (some ⟨V.heap.size + 1, 0, none⟩)) ∧ Box4 w' (V.heap.size + 1) (.slice q t.pairs.length d) (.slice r t.blocks.length k) (.int .i64 t.height) (.bool t.bad) ∧ (IsQ w' q d t.pairs ∧ IsI w' r k t.blocks) ∧ Below V.heap.size V w'
theorem WoodL.tree (x : WoodL V a n c a' n' c' b p f G) : Calls Tryz.prog 15 #[.agg #[.slice a n c, .slice a' n' c', .slice b p f, .int .i64 G.root, .int .i64 G.gen]] V fun y w' => TreeC V y w' G.tree := by
 refine (tree_any a a' b n c n' c' p f G.now G.pages G.root G.gen V x.2.1 x.2.2.1 x.2.2.2.2.1 x.2.2.2.2.2).mono ?_
 rintro y w' ⟨u1, u2, rfl, T, hb⟩
 obtain ⟨q, d, rfl, hQ, -⟩ := owned_isQ T.r1 rfl tree_sized
 obtain ⟨r, k, rfl, hI⟩ : ∃ r k, u2 = .slice r (treeS G.now G.pages G.root G.gen).blocks.length k ∧ IsI w' r k (treeS G.now G.pages G.root G.gen).blocks := by
  rcases T.r2.2 with ⟨e, hz⟩ | ⟨g, cap, cur, e, hg, hcur, hnc, hcm, hsz, htk⟩
  ·
   refine ⟨none, 0, ?_, ?_⟩
   ·
    rw [hz]; exact e
   ·
    rw [List.length_eq_zero_iff.1 hz]; exact isI_nil _
  ·
   refine ⟨some ⟨g, 0, none⟩, cap, e, hnc, hcm, fun j z hz => ⟨g, 0, rfl, (T.r2.lt g (by rw [e]; rfl)).2, ?_⟩⟩
   have := T.r2.cells (g := g) (by rw [e]; rfl) j (.int .i64 z) (by simp [hz])
   rw [at_add] at this
   exact this
 exact ⟨q, d, r, k, rfl, T.box, ⟨hQ, hI⟩, hb⟩
def getT (P : List (ByteArray × ByteArray)) (key : ByteArray) : ByteArray × Int := if 1 ≤ key.size ∧ key.size ≤ 32 then getP P key else (⟨#[]⟩, 1)
def PutC (w : World) (e : Ending) (w' : World) (R : Int × WoodS) : Prop :=
 ∃ b1 m1 c1 b2 m2 c2 b3 m3 c3, e = .returned (.tuple #[.agg #[.slice b1 m1 c1, .slice b2 m2 c2, .slice b3 m3 c3, .int .i64 R.2.root, .int .i64 R.2.gen], .int .i64 R.1]) ∧ WoodL w' b1 m1 c1 b2 m2 c2 b3 m3 c3 R.2 ∧ Below w.heap.size w w'
theorem AllC.letters {w w' : World} {e : Ending} {R : Int × WoodS} (h : AllC w e w' R) : PutC w e w' R := by
 obtain ⟨a1, c1, a2, c2, b3, c3, rfl, ⟨i1, i2, i3⟩, -, hb⟩ := h
 exact ⟨a1, _, c1, a2, _, c2, b3, _, c3, rfl, ⟨rfl, rfl, rfl, i1, i2, i3⟩, hb⟩
theorem WoodL.put (x : WoodL V a n c a' n' c' b p f G) (key val : ByteArray) (mk : key.size ≤ maxLen) (mv : val.size ≤ maxLen) : Calls Tryz.prog 11 #[.agg #[.slice a n c, .slice a' n' c', .slice b p f, .int .i64 G.root, .int .i64 G.gen], .string key, .string val] V fun e w' => PutC V e w' (allR G [(key, val)]) := by
 obtain ⟨rfl, rfl, rfl, hB, hB', hP⟩ := x
 exact (growPut1_any a a' b c c' f G key val V hB hB' hP mk mv).mono fun e w' h => h.letters
theorem WoodL.all (x : WoodL V a n c a' n' c' b p f G) {d : Option Addr} {k dc : Nat} {ps : List (ByteArray × ByteArray)} (hk : k = ps.length) (hQ : IsQ V d dc ps) : Calls Tryz.prog 21 #[.agg #[.slice a n c, .slice a' n' c', .slice b p f, .int .i64 G.root, .int .i64 G.gen], .slice d k dc] V fun e w' => PutC V e w' (allR G ps) := by
 obtain ⟨rfl, rfl, rfl, hB, hB', hP⟩ := x
 exact (growAll_any a a' b d c c' f k dc G ps V hk hB hB' hP hQ).mono fun e w' h => h.letters
end
set_option maxRecDepth 20000 in
set_option maxHeartbeats 4000000 in
theorem likeWood_same (a a' b d d' e : Option Addr) (n n' p c c' f k k' l : Nat) (G : WoodS) (w : World) (h1 : WoodL w a n c a' n' c' b p f G) (h2 : WoodL w d n k d' n' k' e p l G) :
  Calls Tryz.prog 22 #[.agg #[.slice a n c, .slice a' n' c', .slice b p f, .int .i64 G.root, .int .i64 G.gen], .agg #[.slice d n k, .slice d' n' k', .slice e p l, .int .i64 G.root, .int .i64 G.gen]] w fun e w' => e = .returned (.bool true) ∧ Below w.heap.size w w' := by
 obtain ⟨W, hW⟩ : ∃ W, W = (w.alloc (.cells #[.slice a n c, .slice a' n' c', .slice b p f, .int .i64 G.root, .int .i64 G.gen] 27)).alloc (.cells #[.slice d n k, .slice d' n' k', .slice e p l, .int .i64 G.root, .int .i64 G.gen] 27) := ⟨_, rfl⟩
 have B1 : WoodBox W w.heap.size (.slice a n c) (.slice a' n' c') (.slice b p f) (.int .i64 G.root) (.int .i64 G.gen) := by rw [hW]; exact (woodBox_new _ _ _ _ _ _ _ rfl).below ((Below.refl _ _).alloc (Nat.le_refl _) _)
 have B2 : WoodBox W (w.heap.size + 1) (.slice d n k) (.slice d' n' k') (.slice e p l) (.int .i64 G.root) (.int .i64 G.gen) := by rw [hW]; exact woodBox_new _ _ _ _ _ _ _ (by simp)
 have HB : Below w.heap.size w W := by rw [hW]; exact ((Below.refl _ _).alloc (Nat.le_refl _) _).alloc (by simp) _
 have cL : Calls Tryz.prog 34 #[.agg #[.slice a n c, .slice a' n' c'], .agg #[.slice d n k, .slice d' n' k']] W fun x w' => x = .returned (.bool true) ∧ Below W.heap.size W w' := by
  have := allocLike_any a a' d d' c c' k k' n n' n n' G.base G.now G.base G.now W h1.1 h1.2.1 h1.1 h1.2.1 (h1.2.2.2.1.below HB) (h1.2.2.2.2.1.below HB) (h2.2.2.2.1.below HB) (h2.2.2.2.2.1.below HB)
  rw [likeA_same] at this
  exact this
 have EP : Hid (p = G.pages.length) := h1.2.2.1
 have P1 : Hid (IsS w b f G.pages) := h1.2.2.2.2.2
 have P2 : Hid (IsS w e l G.pages) := h2.2.2.2.2.2
 have mp : p ≤ 9223372036854775807 := by rw [h1.2.2.1]; exact Nat.le_trans h1.2.2.2.2.2.1 h1.2.2.2.2.2.2.1
 have rr : ((G.root : Int) != G.root) = false := by simp
 have rg : ((G.gen : Int) != G.gen) = false := by simp
 clear h1 h2
 obtain ⟨x0, x1, x2, x3, x4⟩ := id (hW ▸ B1)
 obtain ⟨y0, y1, y2, y3, y4⟩ := id (hW ▸ B2)
 go_enter Tryz.func22, Tryz.ntmps22
 go_wp2_with (go_at_call 34; rw [← hW]; refine cL.mono ?_; rintro y w1 ⟨rfl, hb⟩; replace B1 := B1.below hb; replace B2 := B2.below hb; replace HB := Below.tr HB hb; clear hb cL x0 x1 x2 x3 x4 y0 y1 y2 y3 y4; obtain ⟨x0, x1, x2, x3, x4⟩ := id B1; obtain ⟨y0, y1, y2, y3, y4⟩ := id B2)
 clear x0 x1 x2 x3 x4 y0 y1 y2 y3 y4
 go_loopw [48] (fun v wr => ∃ j : Nat, j ≤ p ∧ v = .int .i64 j ∧ WoodBox wr w.heap.size (.slice a n c) (.slice a' n' c') (.slice b p f) (.int .i64 G.root) (.int .i64 G.gen) ∧ WoodBox wr (w.heap.size + 1) (.slice d n k) (.slice d' n' k') (.slice e p l) (.int .i64 G.root) (.int .i64 G.gen) ∧ Below w.heap.size w wr) (fun v _ => p - (intOf v).toNat)
 case atStart => exact ⟨0, by omega, rfl, B1, B2, HB⟩
 case round =>
  clear B1 B2 HB
  obtain ⟨j, hj, rfl, B1, B2, HB⟩ := hrel
  by_cases hlt : j < p
  ·
   have hlt' : (j : Int) < p := by omega
   obtain ⟨s, hs⟩ : ∃ x, Hid (G.pages[j]? = some x) := get_some (by rw [← EP.out]; exact hlt)
   obtain ⟨g1, o1, rfl, -, hc0, -⟩ := P1.out.2.2 j s hs.out
   obtain ⟨g2, o2, rfl, -, hc1, -⟩ := P2.out.2.2 j s hs.out
   have z0 := cell_below HB hc0
   have z1 := cell_below HB hc1
   have s0 := str_eq_true (rfl : s = s)
   clear hc0 hc1
   obtain ⟨x0, x1, x2, x3, x4⟩ := id B1
   obtain ⟨y0, y1, y2, y3, y4⟩ := id B2
   go_wp2
   go_region
   go_wp2
   go_roundw
   case rel => exact ⟨j + 1, by omega, by go_num, B1.below (Below.refl _ _).drew, B2.below (Below.refl _ _).drew, HB.drew⟩
   case measure => simp [intOf]; omega
  ·
   obtain rfl : p = j := by omega
   have hj0 : ¬ (p : Int) < p := by omega
   go_wp2
   go_ret
   exact ⟨rfl, HB⟩
set_option maxRecDepth 20000 in
set_option maxHeartbeats 2000000 in
theorem none09_any (a a' b : Option Addr) (c c' f : Nat) (w : World) (h1 : WoodL w a 0 c a' 0 c' b 0 f WoodS.none) :
  Calls Tryz.prog 14 #[.agg #[.slice a 0 c, .slice a' 0 c', .slice b 0 f, .int .i64 0, .int .i64 0]] w fun e w' => e = .returned (.bool true) ∧ Below w.heap.size w w' := by
 have HB : Below w.heap.size w (w.alloc (.cells #[.slice a 0 c, .slice a' 0 c', .slice b 0 f, .int .i64 0, .int .i64 0] 27)) := (Below.refl _ _).alloc (Nat.le_refl _) _
 obtain ⟨x0, x1, x2, x3, x4⟩ := woodBox_new w (.slice a 0 c) (.slice a' 0 c') (.slice b 0 f) (.int .i64 0) (.int .i64 0) 27 rfl
 have cL : ∀ V, WoodL V a 0 c a' 0 c' b 0 f WoodS.none → Calls Tryz.prog 22 #[.agg #[.slice a 0 c, .slice a' 0 c', .slice b 0 f, .int .i64 0, .int .i64 0], .agg #[.slice none 0 0, .slice none 0 0, .slice none 0 0, .int .i64 0, .int .i64 0]] V fun e w' => e = .returned (.bool true) ∧ Below V.heap.size V w' := fun V x => likeWood_same a a' b none none none 0 0 0 c c' f 0 0 0 WoodS.none V x ⟨rfl, rfl, rfl, IsB_nil _, IsB_nil _, isS_nil _⟩
 have h2 := cL _ (h1.below HB)
 clear h1 cL
 go_enter Tryz.func14, Tryz.ntmps14
 go_wp2_with (go_at_call 22; refine h2.mono ?_; rintro y w1 ⟨rfl, hb⟩; replace HB := Below.tr HB hb)
 go_ret
 exact ⟨rfl, HB⟩
end Go.Proofs.YtaecfbfcjaailaaGreat
namespace Go.Proofs.YtaecfbfcjaailaaGreat
open Go.RowKit Plain Go.ChangeShapes Go.WideShapes
set_option linter.unusedVariables false
set_option maxRecDepth 20000 in
theorem open_pairs {H : Type} {enc : TypeId × Value → H} {w : World} {r : Reach} {b0 : Nat} {v : Value} {d : DataW H} {p : List MemPlace}
  (hv : Value.okWide Tryz.prog w r b0 37 v) (h : DataW.Trod enc Tryz.prog w 0 (fun _ => true) true 37 v d p) :
  ∃ a c xs, v = .slice a xs.length c ∧ IsQ w a c xs := by
 obtain ⟨a, len, cap, rfl⟩ := okWide_slice Tryz.underlying37 hv
 obtain ⟨fuel, hf⟩ := h
 have hf' : DataW.trod enc Tryz.prog w 0 (fun _ => true) true fuel 37 [.slice a len cap] = some (d, p) := by simpa [Value.cells] using hf
 rcases Deep.open_slice_pairs Tryz.underlying37 Tryz.underlying50 (by kernel_rfl) rfl rfl (by kernel_rfl) (by kernel_rfl) hf' with ⟨hcs, _⟩ | ⟨a, l, c, m, n, V0, V1, D0, D1, P0, P1, hcs, _, hl, hm, hmm, _, hcell⟩
 ·
  simp at hcs
  obtain ⟨rfl, rfl, rfl⟩ := hcs
  exact ⟨none, 0, [], rfl, isQ_nil _⟩
 ·
  simp at hcs
  obtain ⟨rfl, rfl, rfl⟩ := hcs
  simp at hmm
  have each : ∀ i, i < m → ∃ p : ByteArray × ByteArray, w.cell? (a.add (i * 2)) = some (.string p.1) ∧ w.cell? (a.add (i * 2 + 1)) = some (.string p.2) ∧ p.1.size ≤ maxLen ∧ p.2.size ≤ maxLen := by
   intro i hi
   obtain ⟨h0, h1, g0, g1⟩ := hcell i hi
   obtain ⟨k, hk, _, hkw⟩ := DataW.trod_string Tryz.underlying9 g0
   obtain ⟨s, hs, _, hss⟩ := DataW.trod_string Tryz.underlying9 g1
   simp at hk hs
   rw [hk] at h0
   rw [hs] at h1
   exact ⟨(k, s), h0, h1, hkw, hss⟩
  obtain ⟨q, hq⟩ := Deep.choose_lt each
  refine ⟨some a, cap, (List.range len).map q, by simp, by simpa using hl, hm, fun j p hp => ?_⟩
  have hj : j < len := by simpa using (List.getElem?_eq_some_iff.1 hp).1
  rw [List.getElem?_map, List.getElem?_range hj] at hp
  obtain rfl : q j = p := Option.some.inj hp
  obtain ⟨h0, h1, h2⟩ := hq j (by omega)
  obtain ⟨b, o, rfl, hb⟩ := spot_none (hq 0 (by omega)).1
  rw [at_add] at h0 h1
  exact ⟨b, o, rfl, hb, h0, by rw [Nat.add_assoc]; exact h1, h2⟩
end Go.Proofs.YtaecfbfcjaailaaGreat

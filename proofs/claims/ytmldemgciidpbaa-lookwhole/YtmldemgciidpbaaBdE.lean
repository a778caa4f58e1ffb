/-
  Texts laid together: LookStep, LookVisit, LookPairs, LookGetsOf, LookFind, LookGet, AllocRefNew, LookAlive, LookScanMem, LookGather, LookThrough, LookScanned, LookScan, LookOpen, LookLawC.
-/
import Derived.Test.YtmldemgciidpbaaBdD
import Derived.Test.YtmldemgciidpbaaBdA
import Derived.Lib.AppendZeros
import Derived.Test.YtmldemgciidpbaaBdC
import Derived.Lib.SmallJoins
namespace Go.Proofs.Ytmldemgciidpbaa
open Go.RowKit Plain
set_option linter.unusedVariables false

theorem str_empty {s : ByteArray} (h : s.size = 0) : s = ⟨#[]⟩ := by
  have h3 : s.data.size = 0 := h
  cases s with
  | mk d => simp at h3; subst h3; rfl

theorem str_full {s : ByteArray} (h : ¬ s.size = 0) : s.toList.isEmpty = false := by
  have h3 : ¬ s.toList = [] := fun e => h (by rw [ByteArray.toList_eq] at e; exact (size_list s).symm.trans (by rw [e]; rfl))
  cases hh : s.toList with
  | nil => exact absurd hh h3
  | cons _ _ => rfl

theorem getD_some {α : Type} {xs : List α} {i : Nat} {x d : α} (h : xs[i]? = some x) : xs.getD i d = x := by rw [List.getD_eq_getElem?_getD, h]; rfl


set_option maxRecDepth 20000 in
set_option maxHeartbeats 1000000 in
/-- WITHIN, of a place. -/
theorem placeWithin_any (block depth : Int) (low high : ByteArray) (a : Option Addr) (n c : Nat) (ks : List ByteArray) (w : World) (hn : n = ks.length) (hK : IsS w a c ks) :
    Calls Try.prog 60 #[.agg #[.int .i64 block, .int .i64 depth, .string low, .string high], .slice a n c] w fun e w' => e = .returned (.bool (withinK ks low high)) ∧ Below w.heap.size w w' := by
  have HB : Below w.heap.size w (w.alloc (.cells #[.int .i64 block, .int .i64 depth, .string low, .string high] 78)) := (Below.refl _ _).alloc (Nat.le_refl _) _
  obtain ⟨⟨x0, x1, x2, x3⟩, -⟩ := box4_new w (.int .i64 block) (.int .i64 depth) (.string low) (.string high) 78 rfl
  have mn : n ≤ 9223372036854775807 := by rw [hn]; exact Nat.le_trans hK.1 hK.2.1
  obtain ⟨r, hr⟩ : ∃ r, r = withinK ks low high := ⟨_, rfl⟩
  rw [← hr]
  cases ks with
  | nil =>
    have hrf : Hid (r = false) := by show _ = _; rw [hr]; rfl
    simp at hn
    subst hn
    clear hr hK
    go_enter Try.func60, Try.ntmps60
    go_wp2
    go_ret
    exact ⟨by rw [hrf.out]; rfl, HB⟩
  | cons k ks =>
    have hl : (k :: ks).length - 1 < (k :: ks).length := by simp
    obtain ⟨z, hz⟩ : ∃ z, (k :: ks)[(k :: ks).length - 1]? = some z := ⟨_, List.getElem?_eq_getElem hl⟩
    obtain ⟨b, o, rfl, -, hc0, -⟩ := hK.2.2 0 k rfl
    obtain ⟨b', o', heq, -, hc1, -⟩ := hK.2.2 _ z hz
    cases heq
    have hr1 : r = (!ltB k low && (decide (high.size = 0) || ltB z high)) := by rw [hr]; unfold withinK; rw [getD_some hz]; rfl
    rw [← hn] at hc1
    have z0 := cell_alloc hc0 (.cells #[.int .i64 block, .int .i64 depth, .string low, .string high] 78)
    have z1 := cell_alloc hc1 (.cells #[.int .i64 block, .int .i64 depth, .string low, .string high] 78)
    rw [Nat.add_zero] at z0
    obtain ⟨m, hm⟩ : ∃ m, n = m + 1 := ⟨n - 1, by rw [hn]; simp⟩
    subst hm
    rw [Nat.add_sub_cancel] at z1
    have k0 : (0 : Int) < ((m + 1 : Nat) : Int) := by omega
    have k1 : ¬ ((m + 1 : Nat) : Int) = 0 := by omega
    have k2 : ((m : Nat) : Int) < ((m + 1 : Nat) : Int) := by omega
    have k3 : ((m + 1 : Nat) : Int) - 1 = m := by omega
    clear hr hn hK hz hl hc0 hc1
    cases h1 : ltB k low with
    | true =>
      have h1' : Op.bytesLess k.toList low.toList = true := h1
      have hrf : Hid (r = false) := by show _ = _; rw [hr1, h1]; rfl
      clear hr1 h1
      go_enter Try.func60, Try.ntmps60
      go_wp2
      go_region
      go_wp2
      go_ret
      exact ⟨by rw [hrf.out]; rfl, HB.drew⟩
    | false =>
      have h1' : Op.bytesLess k.toList low.toList = false := h1
      by_cases h2 : high.size = 0
      · obtain rfl := str_empty h2
        have hrf : Hid (r = true) := by show _ = _; rw [hr1, h1]; rfl
        clear hr1 h1
        go_enter Try.func60, Try.ntmps60
        go_wp2
        go_region
        go_wp2
        go_ret
        exact ⟨by rw [hrf.out]; rfl, HB.drew⟩
      · have h5 := str_full h2
        cases h4 : ltB z high with
        | true =>
          have h4' : Op.bytesLess z.toList high.toList = true := h4
          have hrf : Hid (r = true) := by show _ = _; rw [hr1, h1, h4]; simp
          clear hr1 h1 h2 h4
          go_enter Try.func60, Try.ntmps60
          go_wp2
          go_region
          go_wp2
          go_ret
          exact ⟨by rw [hrf.out]; rfl, HB.drew⟩
        | false =>
          have h4' : Op.bytesLess z.toList high.toList = false := h4
          have hrf : Hid (r = false) := by show _ = _; rw [hr1, h1, h4]; simp [h2]
          clear hr1 h1 h2 h4
          go_enter Try.func60, Try.ntmps60
          go_wp2
          go_region
          go_wp2
          go_ret
          exact ⟨by rw [hrf.out]; rfl, HB.drew⟩

/-- How deep leaves lie behind one that is come to. -/
def levelW (V : World) (h : Nat) (lv d : Int) : World := if lv = 0 then V.setCell ⟨h, 5, none⟩ (.int .i64 d) else V

set_option maxRecDepth 20000 in
/-- LEVEL. -/
theorem level_any (V : World) (h : Nat) (v0 v1 v2 v3 v4 : Value) (lv d : Int) (b : WalkBox V h v0 v1 v2 v3 v4 lv) :
    Calls Try.prog 61 #[.pointer (some ⟨h, 0, none⟩), .int .i64 d] V fun e w' => e = .returned (.bool (decide (lv = 0 ∨ lv = d))) ∧ levelW V h lv d = w' := by
  obtain ⟨-, c5, f5⟩ := b
  unfold levelW
  by_cases h0 : lv = 0
  · subst h0
    rw [if_pos rfl]
    have s5 : (V.setCell ⟨h, 5, none⟩ (.int .i64 d)).cell? ⟨h, 5, none⟩ = some (.int .i64 d) := World.cell?_setCell_same _ _ _ c5
    go_enter Try.func61, Try.ntmps61
    go_wp2
    go_ret
    exact ⟨ret_bool (by simp), rfl⟩
  · rw [if_neg h0]
    have h0' : (lv == 0) = false := by simpa using h0
    have hrf : Hid (decide (lv = 0 ∨ lv = d) = (lv == d)) := by show _ = _; simp [h0]; rfl
    go_enter Try.func61, Try.ntmps61
    go_wp2
    go_ret
    exact ⟨ret_bool hrf.out.symm, rfl⟩

set_option maxRecDepth 20000 in
/-- TOP. -/
theorem top_any (V : World) (h : Nat) (v0 v1 v2 v4 : Value) (root : Int) (b : WoodBox V h v0 v1 v2 (.int .i64 root) v4) :
    Calls Try.prog 34 #[.pointer (some ⟨h, 0, none⟩)] V fun e w' => e = .returned (.agg #[.int .i64 root, .int .i64 1, .string ⟨#[]⟩, .string ⟨#[]⟩]) ∧ Below V.heap.size V w' := by
  have HB : Below V.heap.size V (V.alloc (.cells #[.int .i64 0, .int .i64 0, .string ⟨#[]⟩, .string ⟨#[]⟩] 78)) := (Below.refl _ _).alloc (Nat.le_refl _) _
  have BP := box4_new V (.int .i64 0) (.int .i64 0) (.string ⟨#[]⟩) (.string ⟨#[]⟩) 78 rfl
  obtain ⟨x0, x1, x2, x3, x4⟩ := b.below HB
  obtain ⟨⟨r0, r1, r2, r3⟩, f0, f1, f2, f3⟩ := id BP
  go_enter Try.func34, Try.ntmps34
  go_wp2
  refine bodyPost_ret (v := .agg #[.int .i64 root, .int .i64 1, .string ⟨#[]⟩, .string ⟨#[]⟩]) (by simp [results, Try.results34, go_sem]) rfl ?_
  exact ⟨rfl, (Below.refl _ _).alloc (Nat.le_refl _) _⟩

set_option maxRecDepth 20000 in
set_option maxHeartbeats 2000000 in
/-- BELOW, of a place. -/
theorem placeBelow_any (block depth : Int) (low high : ByteArray) (l : Bool) (a a' a'' : Option Addr) (n c n' c' n'' c'' : Nat) (ks vs : List ByteArray) (cs : List Int) (i : Nat) (kb : Int) (w : World) (e1 : n = ks.length) (e3 : n'' = cs.length) (i1 : IsS w a c ks) (i3 : IsI w a'' c'' cs) (hi : cs[i]? = some kb) (hc : cs.length = ks.length + 1) (hd : 0 ≤ depth ∧ depth ≤ 100) :
    Calls Try.prog 49 #[.agg #[.int .i64 block, .int .i64 depth, .string low, .string high], .agg #[.bool l, .slice a n c, .slice a' n' c', .slice a'' n'' c''], .int .i64 i] w fun e w' => e = .returned (.agg #[.int .i64 kb, .int .i64 (depth + 1), .string (kidFrom low ks i), .string (kidTo high ks i)]) ∧ Below w.heap.size w w' := by
  obtain ⟨W, hW⟩ : ∃ W, W = ((w.alloc (.cells #[.int .i64 block, .int .i64 depth, .string low, .string high] 78)).alloc (.cells #[.bool l, .slice a n c, .slice a' n' c', .slice a'' n'' c''] 32)).alloc (.cells #[.int .i64 0, .int .i64 0, .string ⟨#[]⟩, .string ⟨#[]⟩] 78) := ⟨_, rfl⟩
  have HB : Below w.heap.size w W := by rw [hW]; exact (((Below.refl _ _).alloc (Nat.le_refl _) _).alloc (by simp) _).alloc (by simp only [World.size_alloc]; omega) _
  have BP : Box4 W w.heap.size (.int .i64 block) (.int .i64 depth) (.string low) (.string high) := by rw [hW]; exact ((box4_new _ _ _ _ _ _ rfl).alloc _).alloc _
  have BN : Box4 W (w.heap.size + 1) (.bool l) (.slice a n c) (.slice a' n' c') (.slice a'' n'' c'') := by rw [hW]; exact (box4_new _ _ _ _ _ _ (by simp)).alloc _
  have BR : Box4 W (w.heap.size + 1 + 1) (.int .i64 0) (.int .i64 0) (.string ⟨#[]⟩) (.string ⟨#[]⟩) := by rw [hW]; exact box4_new _ _ _ _ _ _ (by simp)
  have mn : n ≤ 9223372036854775807 := by rw [e1]; exact Nat.le_trans i1.1 i1.2.1
  have mn'' : n'' ≤ 9223372036854775807 := by rw [e3]; exact Nat.le_trans i3.1 i3.2.1
  have hil := (List.getElem?_eq_some_iff.1 hi).1
  have hi' : (i : Int) < n'' := by omega
  obtain ⟨b, o, rfl, -, hc0⟩ := i3.2.2 i kb hi
  have z := cell_below HB hc0
  have hdw : IntKind.i64.wrap (depth + 1) = depth + 1 := by rw [IntKind.wrap_i64]; omega
  obtain ⟨x, hx⟩ : ∃ x, x = kidFrom low ks i := ⟨_, rfl⟩
  obtain ⟨y, hy⟩ : ∃ y, y = kidTo high ks i := ⟨_, rfl⟩
  rw [← hx, ← hy]
  obtain ⟨⟨p0, p1, p2, p3⟩, -⟩ := id (hW ▸ BP)
  obtain ⟨⟨q0, q1, q2, q3⟩, -⟩ := id (hW ▸ BN)
  obtain ⟨⟨r0, r1, r2, r3⟩, f0, f1, f2, f3⟩ := id (hW ▸ BR)
  rw [hW] at z
  have z' := cell_alloc z (.cells #[.int .i64 0, .int .i64 0, .string ⟨#[]⟩, .string ⟨#[]⟩] 78)
  have E1 : Hid (n = ks.length ∧ n'' = cs.length ∧ cs.length = ks.length + 1) := ⟨e1, e3, hc⟩
  have I1 : Hid (IsS w a c ks) := i1
  have X : Hid (x = kidFrom low ks i ∧ y = kidTo high ks i) := ⟨hx, hy⟩
  clear e1 e3 hc hi hil i1 i3 hc0 hx hy
  go_enter Try.func49, Try.ntmps49
  go_wp2
  go_region
  rw [← hW]
  have HU : Below W.heap.size W (W.alloc (.cells #[.int .i64 kb, .int .i64 (depth + 1), .string low, .string high] 78)).drew := ((Below.refl _ _).alloc (Nat.le_refl _) _).drew
  have hWs : W.heap.size = w.heap.size + 1 + 1 + 1 := by rw [hW]; simp
  have BK : Box4 (W.alloc (.cells #[.int .i64 kb, .int .i64 (depth + 1), .string low, .string high] 78)).drew (w.heap.size + 1 + 1 + 1) (.int .i64 kb) (.int .i64 (depth + 1)) (.string low) (.string high) := (box4_new _ _ _ _ _ _ hWs.symm).drew
  generalize (W.alloc (.cells #[.int .i64 kb, .int .i64 (depth + 1), .string low, .string high] 78)).drew = U at HU BK ⊢
  replace HB := Below.tr HB HU
  replace BN := BN.below HU
  replace BR := BR.below HU
  clear p0 p1 p2 p3 q0 q1 q2 q3 r0 r1 r2 r3 f0 f1 f2 f3 z z' hW BP HU hWs
  have hil : i ≤ ks.length := by have := E1.out; omega
  by_cases h0 : i = 0
  · by_cases h1 : i < ks.length
    · obtain ⟨⟨q0, q1, q2, q3⟩, -⟩ := id BN
      obtain ⟨⟨k0, k1, k2, k3⟩, kf0, kf1, kf2, kf3⟩ := id BK
      obtain rfl : x = low := by rw [X.out.1]; unfold kidFrom; rw [if_pos h0]
      have hm0 : ¬ (0 : Int) < i := by omega
      obtain ⟨ky, hky⟩ : ∃ k, Hid (ks[i]? = some k) := get_some h1
      obtain ⟨b1, o1, rfl, hlt1, hc2, -⟩ := I1.out.2.2 i ky hky.out
      have zk := cell_below HB hc2
      obtain rfl : y = ky := by rw [X.out.2]; unfold kidTo; rw [if_pos h1]; exact getD_some hky.out
      have hn1 : (i : Int) < n := by have := E1.out; omega
      replace BK := BK.set3 (.string y)
      replace BR := BR.other (p := ⟨w.heap.size + 1 + 1 + 1, 3, none⟩) (by simp) (.string y)
      replace HB : Below w.heap.size w (U.setCell ⟨w.heap.size + 1 + 1 + 1, 3, none⟩ (.string y)) := HB.setCell (by simp; omega) _
      obtain ⟨⟨u0, u1, u2, u3⟩, -⟩ := id BK
      obtain ⟨⟨r0, r1, r2, r3⟩, rf0, rf1, rf2, rf3⟩ := id BR
      clear hil h0 h1 X E1 I1 BN BK BR hd mn'' hi' hky hc2 hlt1
      go_wp2
      refine bodyPost_ret (v := .agg #[.int .i64 kb, .int .i64 (depth + 1), .string x, .string y]) (by simp [results, Try.results49, go_sem, r0, r1, r2, r3]) rfl ?_
      exact ⟨rfl, below_put4 HB (by omega) _ _ _ _⟩
    · obtain ⟨⟨q0, q1, q2, q3⟩, -⟩ := id BN
      obtain ⟨⟨k0, k1, k2, k3⟩, kf0, kf1, kf2, kf3⟩ := id BK
      obtain rfl : x = low := by rw [X.out.1]; unfold kidFrom; rw [if_pos h0]
      have hm0 : ¬ (0 : Int) < i := by omega
      obtain rfl : y = high := by rw [X.out.2]; unfold kidTo; rw [if_neg h1]
      have hn1 : ¬ (i : Int) < n := by have := E1.out; omega
      obtain ⟨⟨r0, r1, r2, r3⟩, rf0, rf1, rf2, rf3⟩ := id BR
      clear hil h0 h1 X E1 I1 BN BK BR hd mn'' hi'
      go_wp2
      refine bodyPost_ret (v := .agg #[.int .i64 kb, .int .i64 (depth + 1), .string x, .string y]) (by simp [results, Try.results49, go_sem, r0, r1, r2, r3]) rfl ?_
      exact ⟨rfl, below_put4 HB (by omega) _ _ _ _⟩
  · by_cases h1 : i < ks.length
    · obtain ⟨⟨q0, q1, q2, q3⟩, -⟩ := id BN
      obtain ⟨⟨k0, k1, k2, k3⟩, kf0, kf1, kf2, kf3⟩ := id BK
      obtain ⟨m, hm⟩ : ∃ m : Nat, (i : Int) - 1 = m := ⟨i - 1, by omega⟩
      obtain ⟨kx, hkx⟩ : ∃ k, Hid (ks[m]? = some k) := get_some (by omega)
      obtain ⟨b1, o1, rfl, hlt1, hc1, -⟩ := I1.out.2.2 m kx hkx.out
      have zm := cell_below HB hc1
      have hm1 : (m : Int) < n := by have := E1.out; omega
      obtain rfl : x = kx := by rw [X.out.1]; unfold kidFrom; rw [if_neg h0, show i - 1 = m by omega]; exact getD_some hkx.out
      replace BK := BK.set2 (.string x)
      replace BN := BN.other (p := ⟨w.heap.size + 1 + 1 + 1, 2, none⟩) (fun e => by have e' : w.heap.size + 1 + 1 + 1 = w.heap.size + 1 := e; omega) (.string x)
      replace BR := BR.other (p := ⟨w.heap.size + 1 + 1 + 1, 2, none⟩) (by simp) (.string x)
      replace HB : Below w.heap.size w (U.setCell ⟨w.heap.size + 1 + 1 + 1, 2, none⟩ (.string x)) := HB.setCell (by simp; omega) _
      obtain ⟨⟨s0, s1, s2, s3⟩, -⟩ := id BN
      obtain ⟨⟨t0, t1, t2, t3⟩, tf0, tf1, tf2, tf3⟩ := id BK
      have hm0 : (0 : Int) < i := by omega
      obtain ⟨ky, hky⟩ : ∃ k, Hid (ks[i]? = some k) := get_some h1
      obtain ⟨b2, o2, heq, -, hc2, -⟩ := I1.out.2.2 i ky hky.out
      cases heq
      have zk := cell_below HB hc2
      obtain rfl : y = ky := by rw [X.out.2]; unfold kidTo; rw [if_pos h1]; exact getD_some hky.out
      have hn1 : (i : Int) < n := by have := E1.out; omega
      replace BK := BK.set3 (.string y)
      replace BR := BR.other (p := ⟨w.heap.size + 1 + 1 + 1, 3, none⟩) (by simp) (.string y)
      replace HB : Below w.heap.size w ((U.setCell ⟨w.heap.size + 1 + 1 + 1, 2, none⟩ (.string x)).setCell ⟨w.heap.size + 1 + 1 + 1, 3, none⟩ (.string y)) := HB.setCell (by simp; omega) _
      obtain ⟨⟨u0, u1, u2, u3⟩, -⟩ := id BK
      obtain ⟨⟨r0, r1, r2, r3⟩, rf0, rf1, rf2, rf3⟩ := id BR
      clear hil h0 h1 X E1 I1 BN BK BR hd mn'' hi' hkx hlt1 hc1 hky hc2
      go_wp2
      refine bodyPost_ret (v := .agg #[.int .i64 kb, .int .i64 (depth + 1), .string x, .string y]) (by simp [results, Try.results49, go_sem, r0, r1, r2, r3]) rfl ?_
      exact ⟨rfl, below_put4 HB (by omega) _ _ _ _⟩
    · obtain ⟨⟨q0, q1, q2, q3⟩, -⟩ := id BN
      obtain ⟨⟨k0, k1, k2, k3⟩, kf0, kf1, kf2, kf3⟩ := id BK
      obtain ⟨m, hm⟩ : ∃ m : Nat, (i : Int) - 1 = m := ⟨i - 1, by omega⟩
      obtain ⟨kx, hkx⟩ : ∃ k, Hid (ks[m]? = some k) := get_some (by omega)
      obtain ⟨b1, o1, rfl, hlt1, hc1, -⟩ := I1.out.2.2 m kx hkx.out
      have zm := cell_below HB hc1
      have hm1 : (m : Int) < n := by have := E1.out; omega
      obtain rfl : x = kx := by rw [X.out.1]; unfold kidFrom; rw [if_neg h0, show i - 1 = m by omega]; exact getD_some hkx.out
      replace BK := BK.set2 (.string x)
      replace BN := BN.other (p := ⟨w.heap.size + 1 + 1 + 1, 2, none⟩) (fun e => by have e' : w.heap.size + 1 + 1 + 1 = w.heap.size + 1 := e; omega) (.string x)
      replace BR := BR.other (p := ⟨w.heap.size + 1 + 1 + 1, 2, none⟩) (by simp) (.string x)
      replace HB : Below w.heap.size w (U.setCell ⟨w.heap.size + 1 + 1 + 1, 2, none⟩ (.string x)) := HB.setCell (by simp; omega) _
      obtain ⟨⟨s0, s1, s2, s3⟩, -⟩ := id BN
      obtain ⟨⟨t0, t1, t2, t3⟩, tf0, tf1, tf2, tf3⟩ := id BK
      have hm0 : (0 : Int) < i := by omega
      obtain rfl : y = high := by rw [X.out.2]; unfold kidTo; rw [if_neg h1]
      have hn1 : ¬ (i : Int) < n := by have := E1.out; omega
      obtain ⟨⟨r0, r1, r2, r3⟩, rf0, rf1, rf2, rf3⟩ := id BR
      clear hil h0 h1 X E1 I1 BN BK BR hd mn'' hi' hkx hlt1 hc1
      go_wp2
      refine bodyPost_ret (v := .agg #[.int .i64 kb, .int .i64 (depth + 1), .string x, .string y]) (by simp [results, Try.results49, go_sem, r0, r1, r2, r3]) rfl ?_
      exact ⟨rfl, below_put4 HB (by omega) _ _ _ _⟩

end Go.Proofs.Ytmldemgciidpbaa

namespace Go.Proofs.Ytmldemgciidpbaa
open Go.RowKit Plain
set_option linter.unusedVariables false

theorem holds_ing {ns : List Bool} {ps : List ByteArray} {gen : Int} : Holding (holdsS ns ps gen) := by
  intro b r nd h
  obtain ⟨l, ks, vs, cs⟩ := nd
  have hs : standsN l ks vs cs = true := (rightN_iff.1 (holds_right h)).1
  obtain ⟨_, hk, hr, _, _, _⟩ := standsN_iff.1 hs
  obtain ⟨_, _, h3, h4⟩ := holds_len b r (l, ks, vs, cs) h
  exact ⟨hr, hk, h3, h4⟩

theorem holds_keyed {ns : List Bool} {ps : List ByteArray} {gen : Int} : Keyed (holdsS ns ps gen) := by
  intro b r nd h hl e
  obtain ⟨l, ks, vs, cs⟩ := nd
  have hs : standsN l ks vs cs = true := (rightN_iff.1 (holds_right h)).1
  obtain ⟨_, _, _, _, _, hsh⟩ := standsN_iff.1 hs
  replace hl : l = false := hl
  replace e : ks = [] := e
  subst hl e
  have := shape_inner.1 hsh
  simp at this

/-- Nothing that was there turns but one cell of one box: how deep leaves lie. -/
structure Only5 (h : Nat) (V V' : World) : Prop where
  t : Turns (fun k => k = h) V V'
  c : ∀ i v, i ≠ 5 → V.cell? ⟨h, i, none⟩ = some v → V'.cell? ⟨h, i, none⟩ = some v
  f : ∀ i v, V.cell? ⟨h, i, none⟩ = some v → V.frozen? ⟨h, i, none⟩ = false → V'.frozen? ⟨h, i, none⟩ = false

theorem Only5.of_below {h : Nat} {V V' : World} (hb : Below V.heap.size V V') : Only5 h V V' :=
  ⟨Turns.of_below hb, fun i v _ hc => cell_below hb hc, fun i v hc hf => by rw [hb.frozen (p := ⟨h, i, none⟩) (cell_lt hc)]; exact hf⟩

theorem only5_set {h : Nat} (V : World) (v : Value) : Only5 h V (V.setCell ⟨h, 5, none⟩ v) :=
  ⟨Turns.setCell (P := fun k => k = h) (Turns.refl _ _) (p := ⟨h, 5, none⟩) rfl _, fun i u hi hc => by rw [World.cell?_setCell_other _ _ _ _ (fun hh => by cases hh; exact hi rfl)]; exact hc, fun i u hc hf => by rw [World.frozen?_setCell]; exact hf⟩

theorem only5_level {h : Nat} (V : World) (lv d : Int) : Only5 h V (levelW V h lv d) := by
  unfold levelW
  split
  · exact only5_set V _
  · exact Only5.of_below (Below.refl _ _)

/-- What was there at first, though a cell of it, the fifth, may have turned on the way. -/
theorem Only5.low {h : Nat} {V U U' : World} (hb : Only5 h V U) (t : Only5 h U U') (c5 : ∀ i v, V.cell? ⟨h, i, none⟩ = some v → ∃ u, U.cell? ⟨h, i, none⟩ = some u) : Only5 h V U' :=
  ⟨hb.t.trans t.t, fun i v hi hc => t.c i v hi (hb.c i v hi hc), fun i v hc hf => by
    obtain ⟨u, hu⟩ := c5 i v hc
    exact t.f i u hu (hb.f i v hc hf)⟩

theorem WalkBox.level {V : World} {h : Nat} {v0 v1 v2 v3 v4 : Value} {lv : Int} (b : WalkBox V h v0 v1 v2 v3 v4 lv) (d : Int) : WalkBox (levelW V h lv d) h v0 v1 v2 v3 v4 (if lv = 0 then d else lv) := by
  unfold levelW
  split
  · obtain ⟨⟨c0, c1, c2, c3, c4⟩, c5, f5⟩ := b
    refine ⟨⟨?_, ?_, ?_, ?_, ?_⟩, World.cell?_setCell_same _ _ _ c5, by rw [World.frozen?_setCell]; exact f5⟩
    all_goals (rw [World.cell?_setCell_other _ _ _ _ (fun hh => by cases hh)]; assumption)
  · exact b

/-- How deep leaves lie behind a node that was come to. -/
def levelO (O : Option NodeS) (lv d : Int) : Int := match O with
  | some n => if n.1 = true then d else lv
  | none => lv

/-- A node that may be where it is come to. -/
def seenO (O : Option NodeS) (low high : ByteArray) (lv d : Int) : Option NodeS := match O with
  | none => none
  | some n => if withinK n.2.1 low high = true ∧ (n.1 = true → lv = 0 ∨ lv = d) then some n else none

theorem visitS_seen (H : Int → Bool → Option NodeS) (lv : Int) (k : Nat) (block : Int) (low high : ByteArray) : visitS H lv (k + 1) block low high = seenO (H block (decide (k = 7))) low high lv (8 - (k : Int)) := by
  unfold visitS seenO
  simp only
  cases H block (decide (k = 7)) <;> rfl

/-- How a node is told that is come to. -/
def VisitC (V : World) (h : Nat) (v0 v1 v2 v3 v4 : Value) (x : Ending) (V' : World) (lv : Int) (nd : NodeS) (E : Int) : Prop :=
  ∃ k1 a1 d1 k2 a2 d2 k3 a3 d3, x = .returned (.tuple #[.agg #[.bool nd.1, .slice a1 k1 d1, .slice a2 k2 d2, .slice a3 k3 d3], .int .i64 E]) ∧ k1 = nd.2.1.length ∧ k2 = nd.2.2.1.length ∧ k3 = nd.2.2.2.length ∧
    IsS V' a1 d1 nd.2.1 ∧ IsS V' a2 d2 nd.2.2.1 ∧ IsI V' a3 d3 nd.2.2.2 ∧ From V.heap.size a1 ∧ From V.heap.size a2 ∧ From V.heap.size a3 ∧ WalkBox V' h v0 v1 v2 v3 v4 lv ∧ Only5 h V V'

theorem Only5.put {h g : Nat} {V U : World} (t : Only5 h V U) (hh : h < V.heap.size) (hg : V.heap.size ≤ g) (u0 u1 u2 u3 : Value) : Only5 h V ((((U.setCell ⟨g, 0, none⟩ u0).setCell ⟨g, 1, none⟩ u1).setCell ⟨g, 2, none⟩ u2).setCell ⟨g, 3, none⟩ u3) := by
  have hne : ∀ (i j : Nat), (⟨h, i, none⟩ : Addr) ≠ ⟨g, j, none⟩ := fun i j e => by cases e; omega
  have T := turns_put4 U g u0 u1 u2 u3
  refine ⟨⟨T.os.trans t.t.os, T.tape.trans t.t.tape, T.output.trans t.t.output, Nat.le_trans t.t.size T.size, fun k hk hp => ?_⟩, fun i v hi hc => ?_, fun i v hc hf => ?_⟩
  · exact (T.block k (Nat.lt_of_lt_of_le hk t.t.size) (by omega)).trans (t.t.block k hk hp)
  · exact T.cell (p := ⟨h, i, none⟩) (show ¬ h = g by omega) (t.c i v hi hc)
  · rw [World.frozen?_setCell, World.frozen?_setCell, World.frozen?_setCell, World.frozen?_setCell]
    exact t.f i v hc hf

theorem WalkBox.put {h g : Nat} {U : World} {v0 v1 v2 v3 v4 : Value} {lv : Int} (b : WalkBox U h v0 v1 v2 v3 v4 lv) (hg : h ≠ g) (u0 u1 u2 u3 : Value) : WalkBox ((((U.setCell ⟨g, 0, none⟩ u0).setCell ⟨g, 1, none⟩ u1).setCell ⟨g, 2, none⟩ u2).setCell ⟨g, 3, none⟩ u3) h v0 v1 v2 v3 v4 lv := by
  have hne : ∀ (i j : Nat), (⟨h, i, none⟩ : Addr) ≠ ⟨g, j, none⟩ := fun i j e => by cases e; exact hg rfl
  have T := turns_put4 U g u0 u1 u2 u3
  exact ⟨b.1.turns T hg, T.cell (p := ⟨h, 5, none⟩) hg b.2.1, by rw [World.frozen?_setCell, World.frozen?_setCell, World.frozen?_setCell, World.frozen?_setCell]; exact b.2.2⟩

theorem visitC_none {V U : World} {h : Nat} {v0 v1 v2 v3 v4 : Value} {lv E : Int} (b : WalkBox U h v0 v1 v2 v3 v4 lv) (t : Only5 h V U) : VisitC V h v0 v1 v2 v3 v4 (.returned (.tuple #[.agg #[.bool false, .slice none 0 0, .slice none 0 0, .slice none 0 0], .int .i64 E])) U lv (false, [], [], []) E :=
  ⟨_, _, _, _, _, _, _, _, _, rfl, rfl, rfl, rfl, isS_nil _, isS_nil _, isI_nil _, from_nil _, from_nil _, from_nil _, b, t⟩


set_option maxRecDepth 20000 in
set_option maxHeartbeats 4000000 in
/-- VISIT. -/
theorem visit_any (w V : World) (h : Nat) (a a' b : Option Addr) (n c n' c' p f : Nat) (ns : List Bool) (ps : List ByteArray) (root gen block d : Int) (low high : ByteArray) (k : Nat) (lv : Int) (hn' : n' = ns.length) (hp : p = ps.length) (hpn : p = n') (hV : Below w.heap.size w V) (hB' : IsB w a' c' ns) (hP : IsS w b f ps)
    (hk : k ≤ 8) (hd : d = 9 - (k : Int)) (WB : WalkBox V h (.slice a n c) (.slice a' n' c') (.slice b p f) (.int .i64 root) (.int .i64 gen) lv) :
    Calls Try.prog 47 #[.pointer (some ⟨h, 0, none⟩), .agg #[.int .i64 block, .int .i64 d, .string low, .string high]] V fun x V' => VisitC V h (.slice a n c) (.slice a' n' c') (.slice b p f) (.int .i64 root) (.int .i64 gen) x V' (levelO (visitS (holdsS ns ps gen) lv k block low high) lv d) (nodeO (visitS (holdsS ns ps gen) lv k block low high)) (errO (visitS (holdsS ns ps gen) lv k block low high)) := by
  obtain ⟨W, hW⟩ : ∃ W, W = (V.alloc (.cells #[.int .i64 block, .int .i64 d, .string low, .string high] 78)).alloc (.cells #[.bool false, .slice none 0 0, .slice none 0 0, .slice none 0 0] 32) := ⟨_, rfl⟩
  have OV : Below V.heap.size V W := by rw [hW]; exact ((Below.refl _ _).alloc (Nat.le_refl _) _).alloc (by simp) _
  have HB : Below w.heap.size w W := Below.tr hV OV
  have hlt : h < V.heap.size := cell_lt WB.2.1
  have BP : Box4 W V.heap.size (.int .i64 block) (.int .i64 d) (.string low) (.string high) := by rw [hW]; exact (box4_new _ _ _ _ _ _ rfl).alloc _
  have BR : Box4 W (V.heap.size + 1) (.bool false) (.slice none 0 0) (.slice none 0 0) (.slice none 0 0) := by rw [hW]; exact box4_new _ _ _ _ _ _ (by simp)
  replace WB := WB.below OV
  obtain ⟨O, hO⟩ : ∃ O, O = visitS (holdsS ns ps gen) lv k block low high := ⟨_, rfl⟩
  rw [← hO]
  obtain ⟨rt, hrt⟩ : ∃ rt : Bool, (d == 1) = rt := ⟨_, rfl⟩
  obtain ⟨O1, hO1⟩ : ∃ O, O = holdsS ns ps gen block rt := ⟨_, rfl⟩
  have cL0 : ∀ U, Below w.heap.size w U → WoodBox U h (.slice a n c) (.slice a' n' c') (.slice b p f) (.int .i64 root) (.int .i64 gen) → Calls Try.prog 22 #[.pointer (some ⟨h, 0, none⟩), .int .i64 block, .bool rt] U fun x V' => Answers U x V' (nodeO O1).1 (nodeO O1).2.1 (nodeO O1).2.2.1 (nodeO O1).2.2.2 (errO O1) := fun U hU hb => by
    refine (load_any h a a' b n c n' c' p f ns ps root gen block rt U hn' hp hpn hb (hB'.below hU) (hP.below hU)).mono fun x V' hx => ?_
    rw [← hO1, loadC_true] at hx
    exact hx
  obtain ⟨⟨p0, p1, p2, p3⟩, -⟩ := id (hW ▸ BP)
  obtain ⟨⟨r0, r1, r2, r3⟩, f0, f1, f2, f3⟩ := id (hW ▸ BR)
  cases k with
  | zero =>
    have h9 : (8 : Int) < d := by omega
    replace hO1 : O = none := hO
    clear hn' hp hpn hB' hP hd cL0 hO hrt
    go_enter Try.func47, Try.ntmps47
    go_wp2
    rw [← hW] at r0 r1 r2 r3 ⊢
    refine bodyPost_ret (v := .tuple #[.agg #[.bool false, .slice none 0 0, .slice none 0 0, .slice none 0 0], .int .i64 81]) (by simp [results, Try.results47, go_sem, r0, r1, r2, r3]) rfl ?_
    rw [hO1]
    exact visitC_none WB (Only5.of_below OV)
  | succ k =>
    have h9 : ¬ (8 : Int) < d := by omega
    have hrk : rt = decide (k = 7) := by rw [← hrt]; by_cases e : k = 7 <;> simp [e, hd] <;> omega
    have hO2 : O = seenO O1 low high lv d := by
      have hd8 : d = (8 : Int) - (k : Int) := by omega
      rw [hO, hO1, hrk, hd8]
      exact visitS_seen _ _ _ _ _ _
    clear hn' hp hpn hB' hP hd hO hO1 hrk hk
    cases O1 with
    | none =>
      replace hO1 : O = none := hO2
      obtain ⟨⟨nl, nk, nv, nc⟩, hN⟩ : ∃ x : NodeS, x = (false, [], [], []) := ⟨_, rfl⟩
      have cL : ∀ U, Below w.heap.size w U → WoodBox U h (.slice a n c) (.slice a' n' c') (.slice b p f) (.int .i64 root) (.int .i64 gen) → Calls Try.prog 22 #[.pointer (some ⟨h, 0, none⟩), .int .i64 block, .bool rt] U fun x V' => Answers U x V' nl nk nv nc 81 := fun U hU hb => by have := cL0 U hU hb; cases hN; exact this
      clear cL0 hO2 hN
      go_enter Try.func47, Try.ntmps47
      go_wp2_with (
        (go_at_call 22; rw [← hW]; refine (cL _ HB WB.1).mono ?_; rintro y w1 ⟨k1, a1, d1, k2, a2, d2, k3, a3, d3, rfl, e1, e2, e3, i1, i2, i3, j1, j2, j3, hb⟩; have hA : Below w1.heap.size w1 (w1.alloc (.cells #[.bool nl, .slice a1 k1 d1, .slice a2 k2 d2, .slice a3 k3 d3] 32)) := (Below.refl _ _).alloc (Nat.le_refl _) _; have BN := box4_new w1 (.bool nl) (.slice a1 k1 d1) (.slice a2 k2 d2) (.slice a3 k3 d3) 32 rfl; have hlo : V.heap.size + 1 + 1 ≤ W.heap.size := (by rw [hW]; simp); replace HB := Below.tr (Below.tr HB hb) hA; replace OV := Below.tr (Below.tr OV hb) hA; replace BP := (BP.below hb).below hA; replace BR := (BR.below hb).below hA; replace WB := (WB.below hb).below hA; clear r0 r1 r2 r3 f0 f1 f2 f3 p0 p1 p2 p3; obtain ⟨⟨p0, p1, p2, p3⟩, -⟩ := id BP; obtain ⟨⟨r0, r1, r2, r3⟩, f0, f1, f2, f3⟩ := id BR; obtain ⟨⟨n0, n1, n2, n3⟩, -⟩ := id BN; have E : Hid (k1 = nk.length ∧ k2 = nv.length ∧ k3 = nc.length) := ⟨e1, e2, e3⟩; have I : Hid (IsS (w1.alloc (.cells #[.bool nl, .slice a1 k1 d1, .slice a2 k2 d2, .slice a3 k3 d3] 32)) a1 d1 nk ∧ IsS (w1.alloc (.cells #[.bool nl, .slice a1 k1 d1, .slice a2 k2 d2, .slice a3 k3 d3] 32)) a2 d2 nv ∧ IsI (w1.alloc (.cells #[.bool nl, .slice a1 k1 d1, .slice a2 k2 d2, .slice a3 k3 d3] 32)) a3 d3 nc) := ⟨i1.below hA, i2.below hA, i3.below hA⟩; have J : Hid (From (V.heap.size + 1 + 1) a1 ∧ From (V.heap.size + 1 + 1) a2 ∧ From (V.heap.size + 1 + 1) a3) := ⟨j1.mono hlo, j2.mono hlo, j3.mono hlo⟩; have hN : V.heap.size + 1 + 1 ≤ w1.heap.size := (Nat.le_trans hlo hb.size); clear hb hA hlo e1 e2 e3 i1 i2 i3 j1 j2 j3))
      refine bodyPost_ret (v := .tuple #[.agg #[.bool false, .slice none 0 0, .slice none 0 0, .slice none 0 0], .int .i64 81]) (by simp [results, Try.results47, go_sem, r0, r1, r2, r3]) rfl ?_
      rw [hO1]
      exact visitC_none (WB.put (by omega) _ _ _ _) ((Only5.of_below OV).put hlt (by omega) _ _ _ _)
    | some nd =>
      obtain ⟨nl, nk, nv, nc⟩ := nd
      have cL : ∀ U, Below w.heap.size w U → WoodBox U h (.slice a n c) (.slice a' n' c') (.slice b p f) (.int .i64 root) (.int .i64 gen) → Calls Try.prog 22 #[.pointer (some ⟨h, 0, none⟩), .int .i64 block, .bool rt] U fun x V' => Answers U x V' nl nk nv nc 0 := cL0
      have cI0 : ∀ U a1 k1 d1, k1 = nk.length → IsS U a1 d1 nk → Calls Try.prog 60 #[.agg #[.int .i64 block, .int .i64 d, .string low, .string high], .slice a1 k1 d1] U fun e w' => e = .returned (.bool (withinK nk low high)) ∧ Below U.heap.size U w' := fun U a1 k1 d1 h1 h2 => placeWithin_any block d low high a1 k1 d1 nk U h1 h2
      replace hO2 : O = if withinK nk low high = true ∧ (nl = true → lv = 0 ∨ lv = d) then some (nl, nk, nv, nc) else none := hO2
      clear cL0
      cases hwi : withinK nk low high with
      | false =>
        have cI : ∀ U a1 k1 d1, k1 = nk.length → IsS U a1 d1 nk → Calls Try.prog 60 #[.agg #[.int .i64 block, .int .i64 d, .string low, .string high], .slice a1 k1 d1] U fun e w' => e = .returned (.bool false) ∧ Below U.heap.size U w' := fun U a1 k1 d1 h1 h2 => by have := cI0 U a1 k1 d1 h1 h2; rw [hwi] at this; exact this
        have hO1 : O = none := by rw [hO2, if_neg (fun h => by rw [hwi] at h; exact absurd h.1 (by decide))]
        clear cI0 hwi hO2
        go_enter Try.func47, Try.ntmps47
        go_wp2_with (first
          | (go_at_call 22; rw [← hW]; refine (cL _ HB WB.1).mono ?_; rintro y w1 ⟨k1, a1, d1, k2, a2, d2, k3, a3, d3, rfl, e1, e2, e3, i1, i2, i3, j1, j2, j3, hb⟩; have hA : Below w1.heap.size w1 (w1.alloc (.cells #[.bool nl, .slice a1 k1 d1, .slice a2 k2 d2, .slice a3 k3 d3] 32)) := (Below.refl _ _).alloc (Nat.le_refl _) _; have BN := box4_new w1 (.bool nl) (.slice a1 k1 d1) (.slice a2 k2 d2) (.slice a3 k3 d3) 32 rfl; have hlo : V.heap.size + 1 + 1 ≤ W.heap.size := (by rw [hW]; simp); replace HB := Below.tr (Below.tr HB hb) hA; replace OV := Below.tr (Below.tr OV hb) hA; replace BP := (BP.below hb).below hA; replace BR := (BR.below hb).below hA; replace WB := (WB.below hb).below hA; clear r0 r1 r2 r3 f0 f1 f2 f3 p0 p1 p2 p3; obtain ⟨⟨p0, p1, p2, p3⟩, -⟩ := id BP; obtain ⟨⟨r0, r1, r2, r3⟩, f0, f1, f2, f3⟩ := id BR; obtain ⟨⟨n0, n1, n2, n3⟩, -⟩ := id BN; have E : Hid (k1 = nk.length ∧ k2 = nv.length ∧ k3 = nc.length) := ⟨e1, e2, e3⟩; have I : Hid (IsS (w1.alloc (.cells #[.bool nl, .slice a1 k1 d1, .slice a2 k2 d2, .slice a3 k3 d3] 32)) a1 d1 nk ∧ IsS (w1.alloc (.cells #[.bool nl, .slice a1 k1 d1, .slice a2 k2 d2, .slice a3 k3 d3] 32)) a2 d2 nv ∧ IsI (w1.alloc (.cells #[.bool nl, .slice a1 k1 d1, .slice a2 k2 d2, .slice a3 k3 d3] 32)) a3 d3 nc) := ⟨i1.below hA, i2.below hA, i3.below hA⟩; have J : Hid (From (V.heap.size + 1 + 1) a1 ∧ From (V.heap.size + 1 + 1) a2 ∧ From (V.heap.size + 1 + 1) a3) := ⟨j1.mono hlo, j2.mono hlo, j3.mono hlo⟩; have hN : V.heap.size + 1 + 1 ≤ w1.heap.size := (Nat.le_trans hlo hb.size); clear hb hA hlo e1 e2 e3 i1 i2 i3 j1 j2 j3)
          | (go_at_call 60; refine (cI _ a1 k1 d1 E.out.1 I.out.1).mono ?_; rintro y w2 ⟨rfl, hb⟩; replace HB := Below.tr HB hb; replace OV := Below.tr OV hb; replace BP := BP.below hb; replace BR := BR.below hb; replace BN := BN.below hb; replace WB := WB.below hb; clear r0 r1 r2 r3 f0 f1 f2 f3 p0 p1 p2 p3 n0 n1 n2 n3; obtain ⟨⟨p0, p1, p2, p3⟩, -⟩ := id BP; obtain ⟨⟨r0, r1, r2, r3⟩, f0, f1, f2, f3⟩ := id BR; obtain ⟨⟨n0, n1, n2, n3⟩, -⟩ := id BN; replace I : Hid (IsS w2 a1 d1 nk ∧ IsS w2 a2 d2 nv ∧ IsI w2 a3 d3 nc) := ⟨I.out.1.below hb, I.out.2.1.below hb, I.out.2.2.below hb⟩; clear hb))
        refine bodyPost_ret (v := .tuple #[.agg #[.bool false, .slice none 0 0, .slice none 0 0, .slice none 0 0], .int .i64 81]) (by simp [results, Try.results47, go_sem, r0, r1, r2, r3]) rfl ?_
        rw [hO1]
        exact visitC_none (WB.put (by omega) _ _ _ _) ((Only5.of_below OV).put hlt (by omega) _ _ _ _)
      | true =>
        have cI : ∀ U a1 k1 d1, k1 = nk.length → IsS U a1 d1 nk → Calls Try.prog 60 #[.agg #[.int .i64 block, .int .i64 d, .string low, .string high], .slice a1 k1 d1] U fun e w' => e = .returned (.bool true) ∧ Below U.heap.size U w' := fun U a1 k1 d1 h1 h2 => by have := cI0 U a1 k1 d1 h1 h2; rw [hwi] at this; exact this
        cases nl with
        | false =>
          have hO1 : O = some (false, nk, nv, nc) := by rw [hO2, if_pos ⟨hwi, fun e => by cases e⟩]
          clear cI0 hwi hO2
          go_enter Try.func47, Try.ntmps47
          go_wp2_with (first
            | (go_at_call 22; rw [← hW]; refine (cL _ HB WB.1).mono ?_; rintro y w1 ⟨k1, a1, d1, k2, a2, d2, k3, a3, d3, rfl, e1, e2, e3, i1, i2, i3, j1, j2, j3, hb⟩; have hA : Below w1.heap.size w1 (w1.alloc (.cells #[.bool false, .slice a1 k1 d1, .slice a2 k2 d2, .slice a3 k3 d3] 32)) := (Below.refl _ _).alloc (Nat.le_refl _) _; have BN := box4_new w1 (.bool false) (.slice a1 k1 d1) (.slice a2 k2 d2) (.slice a3 k3 d3) 32 rfl; have hlo : V.heap.size + 1 + 1 ≤ W.heap.size := (by rw [hW]; simp); replace HB := Below.tr (Below.tr HB hb) hA; replace OV := Below.tr (Below.tr OV hb) hA; replace BP := (BP.below hb).below hA; replace BR := (BR.below hb).below hA; replace WB := (WB.below hb).below hA; clear r0 r1 r2 r3 f0 f1 f2 f3 p0 p1 p2 p3; obtain ⟨⟨p0, p1, p2, p3⟩, -⟩ := id BP; obtain ⟨⟨r0, r1, r2, r3⟩, f0, f1, f2, f3⟩ := id BR; obtain ⟨⟨n0, n1, n2, n3⟩, -⟩ := id BN; have E : Hid (k1 = nk.length ∧ k2 = nv.length ∧ k3 = nc.length) := ⟨e1, e2, e3⟩; have I : Hid (IsS (w1.alloc (.cells #[.bool false, .slice a1 k1 d1, .slice a2 k2 d2, .slice a3 k3 d3] 32)) a1 d1 nk ∧ IsS (w1.alloc (.cells #[.bool false, .slice a1 k1 d1, .slice a2 k2 d2, .slice a3 k3 d3] 32)) a2 d2 nv ∧ IsI (w1.alloc (.cells #[.bool false, .slice a1 k1 d1, .slice a2 k2 d2, .slice a3 k3 d3] 32)) a3 d3 nc) := ⟨i1.below hA, i2.below hA, i3.below hA⟩; have J : Hid (From (V.heap.size + 1 + 1) a1 ∧ From (V.heap.size + 1 + 1) a2 ∧ From (V.heap.size + 1 + 1) a3) := ⟨j1.mono hlo, j2.mono hlo, j3.mono hlo⟩; have hN : V.heap.size + 1 + 1 ≤ w1.heap.size := (Nat.le_trans hlo hb.size); clear hb hA hlo e1 e2 e3 i1 i2 i3 j1 j2 j3)
            | (go_at_call 60; refine (cI _ a1 k1 d1 E.out.1 I.out.1).mono ?_; rintro y w2 ⟨rfl, hb⟩; replace HB := Below.tr HB hb; replace OV := Below.tr OV hb; replace BP := BP.below hb; replace BR := BR.below hb; replace BN := BN.below hb; replace WB := WB.below hb; clear r0 r1 r2 r3 f0 f1 f2 f3 p0 p1 p2 p3 n0 n1 n2 n3; obtain ⟨⟨p0, p1, p2, p3⟩, -⟩ := id BP; obtain ⟨⟨r0, r1, r2, r3⟩, f0, f1, f2, f3⟩ := id BR; obtain ⟨⟨n0, n1, n2, n3⟩, -⟩ := id BN; replace I : Hid (IsS w2 a1 d1 nk ∧ IsS w2 a2 d2 nv ∧ IsI w2 a3 d3 nc) := ⟨I.out.1.below hb, I.out.2.1.below hb, I.out.2.2.below hb⟩; clear hb))
          have T4 := turns_put4 w2 (V.heap.size + 1) (.bool false) (.slice a1 k1 d1) (.slice a2 k2 d2) (.slice a3 k3 d3)
          obtain ⟨j1, j2, j3⟩ := J.out
          refine bodyPost_ret (v := .tuple #[.agg #[.bool false, .slice a1 k1 d1, .slice a2 k2 d2, .slice a3 k3 d3], .int .i64 0]) (by simp [results, Try.results47, go_sem, r0, r1, r2, r3]) rfl ?_
          rw [hO1]
          refine ⟨k1, a1, d1, k2, a2, d2, k3, a3, d3, rfl, E.out.1, E.out.2.1, E.out.2.2, I.out.1.turns T4 (fun x hx e => by have := j1 x hx; omega), I.out.2.1.turns T4 (fun x hx e => by have := j2 x hx; omega), I.out.2.2.turns T4 (fun x hx e => by have := j3 x hx; omega), j1.mono (by omega), j2.mono (by omega), j3.mono (by omega), WB.put (by omega) _ _ _ _, (Only5.of_below OV).put hlt (by omega) _ _ _ _⟩
        | true =>
          by_cases hlv : lv = 0 ∨ lv = d
          · have hO1 : O = some (true, nk, nv, nc) := by rw [hO2, if_pos ⟨hwi, fun _ => hlv⟩]
            have hlv' : decide (lv = 0 ∨ lv = d) = true := decide_eq_true hlv
            have cV : ∀ U, WalkBox U h (.slice a n c) (.slice a' n' c') (.slice b p f) (.int .i64 root) (.int .i64 gen) lv → Calls Try.prog 61 #[.pointer (some ⟨h, 0, none⟩), .int .i64 d] U fun e w' => e = .returned (.bool true) ∧ levelW U h lv d = w' := fun U hU => by have := level_any U h _ _ _ _ _ lv d hU; rw [hlv'] at this; exact this
            have hll : (if lv = 0 then d else lv) = d := by rcases hlv with e | e <;> simp [e]
            have HL : Hid ((if lv = 0 then d else lv) = d) := hll
            clear cI0 hwi hO2 hlv hlv' hll
            go_enter Try.func47, Try.ntmps47
            go_wp2_with (first
              | (go_at_call 22; rw [← hW]; refine (cL _ HB WB.1).mono ?_; rintro y w1 ⟨k1, a1, d1, k2, a2, d2, k3, a3, d3, rfl, e1, e2, e3, i1, i2, i3, j1, j2, j3, hb⟩; have hA : Below w1.heap.size w1 (w1.alloc (.cells #[.bool true, .slice a1 k1 d1, .slice a2 k2 d2, .slice a3 k3 d3] 32)) := (Below.refl _ _).alloc (Nat.le_refl _) _; have BN := box4_new w1 (.bool true) (.slice a1 k1 d1) (.slice a2 k2 d2) (.slice a3 k3 d3) 32 rfl; have hlo : V.heap.size + 1 + 1 ≤ W.heap.size := (by rw [hW]; simp); replace HB := Below.tr (Below.tr HB hb) hA; replace OV := Below.tr (Below.tr OV hb) hA; replace BP := (BP.below hb).below hA; replace BR := (BR.below hb).below hA; replace WB := (WB.below hb).below hA; clear r0 r1 r2 r3 f0 f1 f2 f3 p0 p1 p2 p3; obtain ⟨⟨p0, p1, p2, p3⟩, -⟩ := id BP; obtain ⟨⟨r0, r1, r2, r3⟩, f0, f1, f2, f3⟩ := id BR; obtain ⟨⟨n0, n1, n2, n3⟩, -⟩ := id BN; have E : Hid (k1 = nk.length ∧ k2 = nv.length ∧ k3 = nc.length) := ⟨e1, e2, e3⟩; have I : Hid (IsS (w1.alloc (.cells #[.bool true, .slice a1 k1 d1, .slice a2 k2 d2, .slice a3 k3 d3] 32)) a1 d1 nk ∧ IsS (w1.alloc (.cells #[.bool true, .slice a1 k1 d1, .slice a2 k2 d2, .slice a3 k3 d3] 32)) a2 d2 nv ∧ IsI (w1.alloc (.cells #[.bool true, .slice a1 k1 d1, .slice a2 k2 d2, .slice a3 k3 d3] 32)) a3 d3 nc) := ⟨i1.below hA, i2.below hA, i3.below hA⟩; have J : Hid (From (V.heap.size + 1 + 1) a1 ∧ From (V.heap.size + 1 + 1) a2 ∧ From (V.heap.size + 1 + 1) a3) := ⟨j1.mono hlo, j2.mono hlo, j3.mono hlo⟩; have hN : V.heap.size + 1 + 1 ≤ w1.heap.size := (Nat.le_trans hlo hb.size); clear hb hA hlo e1 e2 e3 i1 i2 i3 j1 j2 j3)
              | (go_at_call 60; refine (cI _ a1 k1 d1 E.out.1 I.out.1).mono ?_; rintro y w2 ⟨rfl, hb⟩; replace HB := Below.tr HB hb; replace OV := Below.tr OV hb; replace BP := BP.below hb; replace BR := BR.below hb; replace BN := BN.below hb; replace WB := WB.below hb; clear r0 r1 r2 r3 f0 f1 f2 f3 p0 p1 p2 p3 n0 n1 n2 n3; obtain ⟨⟨p0, p1, p2, p3⟩, -⟩ := id BP; obtain ⟨⟨r0, r1, r2, r3⟩, f0, f1, f2, f3⟩ := id BR; obtain ⟨⟨n0, n1, n2, n3⟩, -⟩ := id BN; replace I : Hid (IsS w2 a1 d1 nk ∧ IsS w2 a2 d2 nv ∧ IsI w2 a3 d3 nc) := ⟨I.out.1.below hb, I.out.2.1.below hb, I.out.2.2.below hb⟩; clear hb)
              | (go_at_call 61; refine (cV _ WB).mono ?_; rintro y w3 ⟨rfl, hw3⟩; have T : Only5 h w2 w3 := (by rw [← hw3]; exact only5_level _ _ _); replace WB : WalkBox w3 h (.slice a n c) (.slice a' n' c') (.slice b p f) (.int .i64 root) (.int .i64 gen) (if lv = 0 then d else lv) := (by rw [← hw3]; exact WB.level d); replace BR := BR.turns T.t (by omega); replace BN := BN.turns T.t (by omega); clear r0 r1 r2 r3 f0 f1 f2 f3 p0 p1 p2 p3 n0 n1 n2 n3 hw3; obtain ⟨⟨r0, r1, r2, r3⟩, f0, f1, f2, f3⟩ := id BR; obtain ⟨⟨n0, n1, n2, n3⟩, -⟩ := id BN; replace I : Hid (IsS w3 a1 d1 nk ∧ IsS w3 a2 d2 nv ∧ IsI w3 a3 d3 nc) := ⟨I.out.1.turns T.t (fun x hx e => by have := J.out.1 x hx; omega), I.out.2.1.turns T.t (fun x hx e => by have := J.out.2.1 x hx; omega), I.out.2.2.turns T.t (fun x hx e => by have := J.out.2.2 x hx; omega)⟩))
            have T4 := turns_put4 w3 (V.heap.size + 1) (.bool true) (.slice a1 k1 d1) (.slice a2 k2 d2) (.slice a3 k3 d3)
            obtain ⟨j1, j2, j3⟩ := J.out
            rw [HL.out] at WB
            have OT := (Only5.of_below OV).low T (fun i v hc => ⟨v, cell_below OV hc⟩)
            refine bodyPost_ret (v := .tuple #[.agg #[.bool true, .slice a1 k1 d1, .slice a2 k2 d2, .slice a3 k3 d3], .int .i64 0]) (by simp [results, Try.results47, go_sem, r0, r1, r2, r3]) rfl ?_
            rw [hO1]
            refine ⟨k1, a1, d1, k2, a2, d2, k3, a3, d3, rfl, E.out.1, E.out.2.1, E.out.2.2, I.out.1.turns T4 (fun x hx e => by have := j1 x hx; omega), I.out.2.1.turns T4 (fun x hx e => by have := j2 x hx; omega), I.out.2.2.turns T4 (fun x hx e => by have := j3 x hx; omega), j1.mono (by omega), j2.mono (by omega), j3.mono (by omega), WB.put (by omega) _ _ _ _, OT.put hlt (by omega) _ _ _ _⟩
          · have hO1 : O = none := by rw [hO2, if_neg (fun e => hlv (e.2 rfl))]
            have hlv' : decide (lv = 0 ∨ lv = d) = false := decide_eq_false hlv
            have cV : ∀ U, WalkBox U h (.slice a n c) (.slice a' n' c') (.slice b p f) (.int .i64 root) (.int .i64 gen) lv → Calls Try.prog 61 #[.pointer (some ⟨h, 0, none⟩), .int .i64 d] U fun e w' => e = .returned (.bool false) ∧ levelW U h lv d = w' := fun U hU => by have := level_any U h _ _ _ _ _ lv d hU; rw [hlv'] at this; exact this
            have HL : Hid ((if lv = 0 then d else lv) = lv) := if_neg (fun e => hlv (.inl e))
            clear cI0 hwi hO2 hlv hlv'
            go_enter Try.func47, Try.ntmps47
            go_wp2_with (first
              | (go_at_call 22; rw [← hW]; refine (cL _ HB WB.1).mono ?_; rintro y w1 ⟨k1, a1, d1, k2, a2, d2, k3, a3, d3, rfl, e1, e2, e3, i1, i2, i3, j1, j2, j3, hb⟩; have hA : Below w1.heap.size w1 (w1.alloc (.cells #[.bool true, .slice a1 k1 d1, .slice a2 k2 d2, .slice a3 k3 d3] 32)) := (Below.refl _ _).alloc (Nat.le_refl _) _; have BN := box4_new w1 (.bool true) (.slice a1 k1 d1) (.slice a2 k2 d2) (.slice a3 k3 d3) 32 rfl; have hlo : V.heap.size + 1 + 1 ≤ W.heap.size := (by rw [hW]; simp); replace HB := Below.tr (Below.tr HB hb) hA; replace OV := Below.tr (Below.tr OV hb) hA; replace BP := (BP.below hb).below hA; replace BR := (BR.below hb).below hA; replace WB := (WB.below hb).below hA; clear r0 r1 r2 r3 f0 f1 f2 f3 p0 p1 p2 p3; obtain ⟨⟨p0, p1, p2, p3⟩, -⟩ := id BP; obtain ⟨⟨r0, r1, r2, r3⟩, f0, f1, f2, f3⟩ := id BR; obtain ⟨⟨n0, n1, n2, n3⟩, -⟩ := id BN; have E : Hid (k1 = nk.length ∧ k2 = nv.length ∧ k3 = nc.length) := ⟨e1, e2, e3⟩; have I : Hid (IsS (w1.alloc (.cells #[.bool true, .slice a1 k1 d1, .slice a2 k2 d2, .slice a3 k3 d3] 32)) a1 d1 nk ∧ IsS (w1.alloc (.cells #[.bool true, .slice a1 k1 d1, .slice a2 k2 d2, .slice a3 k3 d3] 32)) a2 d2 nv ∧ IsI (w1.alloc (.cells #[.bool true, .slice a1 k1 d1, .slice a2 k2 d2, .slice a3 k3 d3] 32)) a3 d3 nc) := ⟨i1.below hA, i2.below hA, i3.below hA⟩; have J : Hid (From (V.heap.size + 1 + 1) a1 ∧ From (V.heap.size + 1 + 1) a2 ∧ From (V.heap.size + 1 + 1) a3) := ⟨j1.mono hlo, j2.mono hlo, j3.mono hlo⟩; have hN : V.heap.size + 1 + 1 ≤ w1.heap.size := (Nat.le_trans hlo hb.size); clear hb hA hlo e1 e2 e3 i1 i2 i3 j1 j2 j3)
              | (go_at_call 60; refine (cI _ a1 k1 d1 E.out.1 I.out.1).mono ?_; rintro y w2 ⟨rfl, hb⟩; replace HB := Below.tr HB hb; replace OV := Below.tr OV hb; replace BP := BP.below hb; replace BR := BR.below hb; replace BN := BN.below hb; replace WB := WB.below hb; clear r0 r1 r2 r3 f0 f1 f2 f3 p0 p1 p2 p3 n0 n1 n2 n3; obtain ⟨⟨p0, p1, p2, p3⟩, -⟩ := id BP; obtain ⟨⟨r0, r1, r2, r3⟩, f0, f1, f2, f3⟩ := id BR; obtain ⟨⟨n0, n1, n2, n3⟩, -⟩ := id BN; replace I : Hid (IsS w2 a1 d1 nk ∧ IsS w2 a2 d2 nv ∧ IsI w2 a3 d3 nc) := ⟨I.out.1.below hb, I.out.2.1.below hb, I.out.2.2.below hb⟩; clear hb)
              | (go_at_call 61; refine (cV _ WB).mono ?_; rintro y w3 ⟨rfl, hw3⟩; have T : Only5 h w2 w3 := (by rw [← hw3]; exact only5_level _ _ _); replace WB : WalkBox w3 h (.slice a n c) (.slice a' n' c') (.slice b p f) (.int .i64 root) (.int .i64 gen) (if lv = 0 then d else lv) := (by rw [← hw3]; exact WB.level d); replace BR := BR.turns T.t (by omega); replace BN := BN.turns T.t (by omega); clear r0 r1 r2 r3 f0 f1 f2 f3 p0 p1 p2 p3 n0 n1 n2 n3 hw3; obtain ⟨⟨r0, r1, r2, r3⟩, f0, f1, f2, f3⟩ := id BR; obtain ⟨⟨n0, n1, n2, n3⟩, -⟩ := id BN; replace I : Hid (IsS w3 a1 d1 nk ∧ IsS w3 a2 d2 nv ∧ IsI w3 a3 d3 nc) := ⟨I.out.1.turns T.t (fun x hx e => by have := J.out.1 x hx; omega), I.out.2.1.turns T.t (fun x hx e => by have := J.out.2.1 x hx; omega), I.out.2.2.turns T.t (fun x hx e => by have := J.out.2.2 x hx; omega)⟩))
            rw [HL.out] at WB
            have OT := (Only5.of_below OV).low T (fun i v hc => ⟨v, cell_below OV hc⟩)
            refine bodyPost_ret (v := .tuple #[.agg #[.bool false, .slice none 0 0, .slice none 0 0, .slice none 0 0], .int .i64 81]) (by simp [results, Try.results47, go_sem, r0, r1, r2, r3]) rfl ?_
            rw [hO1]
            exact visitC_none (WB.put (by omega) _ _ _ _) (OT.put hlt (by omega) _ _ _ _)

end Go.Proofs.Ytmldemgciidpbaa

namespace Go.Proofs.Ytmldemgciidpbaa
open Go.RowKit Plain Anylast
set_option linter.unusedVariables false

set_option maxRecDepth 20000 in
set_option maxHeartbeats 1000000 in
/-- GET, of pairs. -/
theorem refGetP_any (a : Option Addr) (c n : Nat) (ps : List (ByteArray × ByteArray)) (key : ByteArray) (w : World) (hn : n = ps.length) (hQ : IsQ w a c ps) :
    Calls Try.prog 17 #[.slice a n c, .string key] w fun e w' => e = .returned (.tuple #[.string (getP ps key).1, .int .i64 (getP ps key).2]) ∧ Below w.heap.size w w' := by
  have mn : n ≤ 9223372036854775807 := by rw [hn]; exact Nat.le_trans hQ.1 hQ.2.1
  obtain ⟨⟨r, e⟩, hr⟩ : ∃ x, x = getP ps key := ⟨_, rfl⟩
  rw [← hr]
  have HR : Hid ((r, e) = getP ps key) := hr
  have EN : Hid (n = ps.length) := hn
  have RQ : Hid (IsQ w a c ps) := hQ
  clear hr hn hQ
  go_enter Try.func17, Try.ntmps17
  go_wp2
  go_loopw [10] (fun v wr => ∃ j : Nat, j ≤ n ∧ v = .int .i64 j ∧ (∀ i q, i < j → ps[i]? = some q → q.1 ≠ key) ∧ Below w.heap.size w wr) (fun v _ => n - (intOf v).toNat)
  case atStart => exact ⟨0, by omega, rfl, fun i q hi => by omega, Below.refl _ _⟩
  case round =>
    obtain ⟨j, hj, rfl, hA, HB⟩ := hrel
    have HA : Hid (∀ i q, i < j → ps[i]? = some q → q.1 ≠ key) := hA
    clear hA
    by_cases hlt : j < n
    · have hlt' : (j : Int) < n := by omega
      obtain ⟨⟨k, v⟩, hp⟩ : ∃ x, Hid (ps[j]? = some x) := get_some (by rw [← EN.out]; exact hlt)
      obtain ⟨b, o, rfl, -, hc0, hc1, -, -⟩ := RQ.out.2.2 j (k, v) hp.out
      have z0 := cell_below HB hc0
      have z1 := cell_below HB hc1
      clear hc0 hc1
      by_cases hk : k = key
      · have hk' := str_eq_true hk
        have hf : Hid ((r, e) = (v, 0)) := by show _ = _; rw [HR.out]; exact getP_skip hp.out HA.out hk
        obtain ⟨rfl, rfl⟩ := Prod.mk.inj hf.out
        clear hf
        subst hk
        go_wp2
        go_ret2
        exact ⟨rfl, HB.alloc HB.size _⟩
      · have hk' := str_eq_false hk
        go_wp2
        go_roundw
        case rel =>
          refine ⟨j + 1, by omega, by go_num, fun i q hi hq => ?_, HB.alloc HB.size _⟩
          by_cases hij : i = j
          · subst hij
            rw [hp.out] at hq
            cases hq
            exact hk
          · exact HA.out i q (by omega) hq
        case measure => simp [intOf]; omega
    · obtain rfl : n = j := by omega
      have hj0 : ¬ (n : Int) < n := by omega
      have hf : (r, e) = (⟨#[]⟩, 80) := by
        rw [HR.out]
        refine getP_none fun q hq => ?_
        obtain ⟨i, hi⟩ := List.mem_iff_getElem?.1 hq
        exact HA.out i q (by rw [EN.out]; exact (List.getElem?_eq_some_iff.1 hi).1) hi
      obtain ⟨rfl, rfl⟩ := Prod.mk.inj hf
      clear hf
      go_wp2
      go_ret2
      exact ⟨rfl, HB⟩

set_option maxRecDepth 20000 in
set_option maxHeartbeats 2000000 in
/-- LIKE, of two rows of pairs. -/
theorem refLikeP_any (a a' : Option Addr) (c c' n n' : Nat) (ps qs : List (ByteArray × ByteArray)) (w : World) (hn : n = ps.length) (hn' : n' = qs.length) (hQ : IsQ w a c ps) (hQ' : IsQ w a' c' qs) :
    Calls Try.prog 20 #[.slice a n c, .slice a' n' c'] w fun e w' => e = .returned (.bool (decide (ps = qs))) ∧ Below w.heap.size w w' := by
  have mn : n ≤ 9223372036854775807 := by rw [hn]; exact Nat.le_trans hQ.1 hQ.2.1
  have mn' : n' ≤ 9223372036854775807 := by rw [hn']; exact Nat.le_trans hQ'.1 hQ'.2.1
  by_cases hl : n = n'
  · subst hl
    have EN : Hid (n = ps.length) := hn
    have EN' : Hid (n = qs.length) := hn'
    have RQ : Hid (IsQ w a c ps) := hQ
    have RQ' : Hid (IsQ w a' c' qs) := hQ'
    clear hn hn' hQ hQ'
    go_enter Try.func20, Try.ntmps20
    go_wp2
    go_loopw [13] (fun v wr => ∃ j : Nat, j ≤ n ∧ v = .int .i64 j ∧ (∀ i, i < j → ps[i]? = qs[i]?) ∧ Below w.heap.size w wr) (fun v _ => n - (intOf v).toNat)
    case atStart => exact ⟨0, by omega, rfl, fun i hi => by omega, Below.refl _ _⟩
    case round =>
      obtain ⟨j, hj, rfl, hs, HB⟩ := hrel
      have HS : Hid (∀ i, i < j → ps[i]? = qs[i]?) := hs
      clear hs
      by_cases hlt : j < n
      · have hlt' : (j : Int) < n := by omega
        obtain ⟨⟨k, v⟩, hp⟩ : ∃ x, Hid (ps[j]? = some x) := get_some (by rw [← EN.out]; exact hlt)
        obtain ⟨⟨k', v'⟩, hq⟩ : ∃ x, Hid (qs[j]? = some x) := get_some (by rw [← EN'.out]; exact hlt)
        obtain ⟨b, o, rfl, -, hc0, hc1, -, -⟩ := RQ.out.2.2 j (k, v) hp.out
        obtain ⟨b', o', rfl, -, hd0, hd1, -, -⟩ := RQ'.out.2.2 j (k', v') hq.out
        have z0 := cell_below HB hc0
        have z1 := cell_below HB hc1
        have y0 := cell_below HB hd0
        have y1 := cell_below HB hd1
        clear hc0 hc1 hd0 hd1
        by_cases e : k = k' ∧ v = v'
        · obtain ⟨rfl, rfl⟩ := e
          go_wp2
          go_region
          go_wp2
          go_roundw
          case rel =>
            refine ⟨j + 1, by omega, by go_num, fun i hi => ?_, HB.drew⟩
            by_cases ei : i = j
            · rw [ei, hp.out, hq.out]
            · exact HS.out i (by omega)
          case measure => simp [intOf]; omega
        · have hne : Hid (decide (ps = qs) = false) := by
            show _ = _
            rw [decide_eq_false_iff_not]
            rintro rfl
            have := hp.out
            rw [hq.out] at this
            have h2 := Option.some.inj this
            exact e ⟨(congrArg Prod.fst h2).symm, (congrArg Prod.snd h2).symm⟩
          by_cases ek : k = k'
          · subst ek
            have e1 : ¬ v.toList = v'.toList := fun h => e ⟨rfl, str_beq.1 (by rw [h]; simp)⟩
            go_wp2
            go_region
            go_wp2
            go_ret
            exact ⟨ret_bool hne.out.symm, HB.drew⟩
          · have e1 : ¬ k.toList = k'.toList := fun h => ek (str_beq.1 (by rw [h]; simp))
            go_wp2
            go_region
            go_wp2
            go_ret
            exact ⟨ret_bool hne.out.symm, HB.drew⟩
      · obtain rfl : n = j := by omega
        have hj0 : ¬ (n : Int) < n := by omega
        have heq : Hid (decide (ps = qs) = true) := by
          show _ = _
          rw [decide_eq_true_eq]
          apply List.ext_getElem?
          intro i
          by_cases hi : i < n
          · exact HS.out i hi
          · rw [List.getElem?_eq_none (by rw [← EN.out]; omega), List.getElem?_eq_none (by rw [← EN'.out]; omega)]
        go_wp2
        go_ret
        exact ⟨ret_bool heq.out.symm, HB⟩
  · have hne : decide (ps = qs) = false := by
      rw [decide_eq_false_iff_not]
      rintro rfl
      exact hl (by rw [hn, hn'])
    have h1 : ((n : Int) != n') = true := by simp; omega
    rw [hne]
    clear hn hn' hQ hQ' hne
    go_enter Try.func20, Try.ntmps20
    go_wp2
    go_ret
    exact ⟨rfl, Below.refl _ _⟩

end Go.Proofs.Ytmldemgciidpbaa

namespace Go.Proofs.Ytmldemgciidpbaa
open Go.RowKit Plain
set_option linter.unusedVariables false

/-- How Get answers. -/
def GetC (right : Bool) (key : ByteArray) (t : TreeS) (v : ByteArray) (e : Int) : Prop :=
  if right = true ∧ 1 ≤ key.size ∧ key.size ≤ 32 then (if t.bad = true then (e = 0 ∨ v = ⟨#[]⟩ ∧ (e = 80 ∨ e = 81)) else (v, e) = getP t.pairs key) else v = ⟨#[]⟩ ∧ e = 1

theorem tree_sized {ns : List Bool} {ps : List ByteArray} {root gen : Int} : ∀ q ∈ (treeS ns ps root gen).pairs, q.1.size ≤ maxLen ∧ q.2.size ≤ maxLen := by
  unfold treeS
  split
  · intro q hq; simp [TreeS.none] at hq
  · refine pairs_all (P := fun q => q.1.size ≤ maxLen ∧ q.2.size ≤ maxLen) (fun b r n hn hl q hq => ?_) 8 TreeS.none root ⟨#[]⟩ ⟨#[]⟩ (fun q hq => by simp [TreeS.none] at hq)
    have hs := (rightN_iff.1 (holds_right hn)).1
    obtain ⟨_, hk, _, hv, _, _⟩ := standsN_iff.1 hs
    have h1 := (hk _ (List.of_mem_zip hq).1).2
    have h2 := hv _ (List.of_mem_zip hq).2
    exact ⟨Nat.le_trans h1 (by decide), Nat.le_trans h2 (by decide)⟩

set_option maxRecDepth 20000 in
set_option maxHeartbeats 4000000 in
theorem lookGets_of (a : Option Addr) (c : Nat) (bs : List Bool) (a' : Option Addr) (c' : Nat) (ns : List Bool) (b : Option Addr) (f : Nat) (ps : List ByteArray) (root gen : Int) (key : ByteArray) (w : World) (hB : IsB w a c bs) (hB' : IsB w a' c' ns) (hP : IsS w b f ps) (hkey : key.size ≤ maxLen)
    (cA : ∀ V, Calls Try.prog 9 #[] V fun e w' => e = .returned (.bool true) ∧ Below V.heap.size V w')
    (cG' : ∀ V {h n n' p : Nat}, WoodIn V h a n c a' n' c' b p f bs ns ps root gen → Calls Try.prog 15 #[.agg #[.slice a n c, .slice a' n' c', .slice b p f, .int .i64 root, .int .i64 gen], .string key] V fun x w' => ∃ v e, x = .returned (.tuple #[.string v, .int .i64 e]) ∧ GetC (rightW bs ns ps root gen) key (treeS ns ps root gen) v e ∧ Below V.heap.size V w') :
    Calls Try.prog 4 #[.agg #[.slice a bs.length c, .slice a' ns.length c', .slice b ps.length f, .int .i64 root, .int .i64 gen], .string key] w fun e w' => e = .returned (.bool true) ∧ Below w.heap.size w w' := by
  obtain ⟨n, hn⟩ : ∃ n, n = bs.length := ⟨_, rfl⟩
  obtain ⟨n', hn'⟩ : ∃ n, n = ns.length := ⟨_, rfl⟩
  obtain ⟨p, hp⟩ : ∃ n, n = ps.length := ⟨_, rfl⟩
  rw [← hn, ← hn', ← hp]
  obtain ⟨W, hW⟩ : ∃ W, W = w.alloc (.cells #[.slice a n c, .slice a' n' c', .slice b p f, .int .i64 root, .int .i64 gen] 27) := ⟨_, rfl⟩
  have HB : Below w.heap.size w W := by rw [hW]; exact (Below.refl _ _).alloc (Nat.le_refl _) _
  have WI : WoodIn W w.heap.size a n c a' n' c' b p f bs ns ps root gen := ⟨by rw [hW]; exact woodBox_new _ _ _ _ _ _ _ rfl, hn, hn', hp, hB.below HB, hB'.below HB, hP.below HB⟩
  have cS0 : ∀ V, Calls Try.prog 8 #[.agg #[.slice a n c, .slice a' n' c', .slice b p f, .int .i64 root, .int .i64 gen]] V fun e w' => e = .returned (.bool (decide (n' ≤ 300) && decide (p ≤ 300))) ∧ Below V.heap.size V w' := fun V => small_any a a' b n c n' c' p f root gen V (by rw [hn']; exact Nat.le_trans hB'.1 hB'.2.1) (by rw [hp]; exact Nat.le_trans hP.1 hP.2.1)
  have cR : ∀ V {h : Nat}, WoodIn V h a n c a' n' c' b p f bs ns ps root gen → Calls Try.prog 11 #[.agg #[.slice a n c, .slice a' n' c', .slice b p f, .int .i64 root, .int .i64 gen]] V fun e w' => e = .returned (.bool (rightW bs ns ps root gen)) ∧ Below V.heap.size V w' := fun V h x => refRightW_any a a' b n c n' c' p f bs ns ps root gen V x.2.1 x.2.2.1 x.2.2.2.1 x.2.2.2.2.1 x.2.2.2.2.2.1 x.2.2.2.2.2.2
  have cT : ∀ V {h : Nat}, WoodIn V h a n c a' n' c' b p f bs ns ps root gen → Calls Try.prog 16 #[.agg #[.slice a n c, .slice a' n' c', .slice b p f, .int .i64 root, .int .i64 gen]] V fun x w' => ∃ u1 u2, x = .returned (.pointer (some ⟨V.heap.size + 1, 0, none⟩)) ∧ TreeAt w' (V.heap.size + 1) (V.heap.size + 2) u1 u2 (treeS ns ps root gen) ∧ Below V.heap.size V w' := fun V h x => tree_any a a' b n c n' c' p f ns ps root gen V x.2.2.1 x.2.2.2.1 x.2.2.2.2.2.1 x.2.2.2.2.2.2
  have cG : ∀ V {h : Nat}, WoodIn V h a n c a' n' c' b p f bs ns ps root gen → Calls Try.prog 15 #[.agg #[.slice a n c, .slice a' n' c', .slice b p f, .int .i64 root, .int .i64 gen], .string key] V fun x w' => ∃ v e, x = .returned (.tuple #[.string v, .int .i64 e]) ∧ GetC (rightW bs ns ps root gen) key (treeS ns ps root gen) v e ∧ Below V.heap.size V w' := fun V h x => cG' V x
  have OKP : Hid (∀ q ∈ (treeS ns ps root gen).pairs, q.1.size ≤ maxLen ∧ q.2.size ≤ maxLen) := tree_sized
  have mk : key.size ≤ 9223372036854775807 := hkey
  clear cG' hn hn' hp hB hB' hP hkey
  obtain ⟨x0, x1, x2, x3, x4⟩ := hW ▸ WI.1
  cases hs : (decide (n' ≤ 300) && decide (p ≤ 300)) with
  | false =>
    have cS : ∀ V, Calls Try.prog 8 #[.agg #[.slice a n c, .slice a' n' c', .slice b p f, .int .i64 root, .int .i64 gen]] V fun e w' => e = .returned (.bool false) ∧ Below V.heap.size V w' := fun V => by have := cS0 V; rw [hs] at this; exact this
    clear cS0 hs cR cT cG
    go_enter Try.func4, Try.ntmps4
    go_wp2_with (first
        | (go_at_call 8; rw [← hW]; refine (cS _).mono ?_; rintro y w1 ⟨rfl, hb⟩; replace WI := WI.below hb; replace HB := Below.tr HB hb; clear x0 x1 x2 x3 x4; obtain ⟨x0, x1, x2, x3, x4⟩ := WI.1; clear hb)
        | (go_at_call 9; refine (cA _).mono ?_; rintro y w5 ⟨rfl, hb⟩; replace HB := Below.tr HB hb; clear hb)
        )
    go_ret
    exact ⟨rfl, HB⟩
  | true =>
    have cS : ∀ V, Calls Try.prog 8 #[.agg #[.slice a n c, .slice a' n' c', .slice b p f, .int .i64 root, .int .i64 gen]] V fun e w' => e = .returned (.bool true) ∧ Below V.heap.size V w' := fun V => by have := cS0 V; rw [hs] at this; exact this
    clear cS0 hs
    by_cases hg : rightW bs ns ps root gen = true ∧ 1 ≤ key.size ∧ key.size ≤ 32
    · replace cG : ∀ V {h : Nat}, WoodIn V h a n c a' n' c' b p f bs ns ps root gen → Calls Try.prog 15 #[.agg #[.slice a n c, .slice a' n' c', .slice b p f, .int .i64 root, .int .i64 gen], .string key] V fun x w' => ∃ v e, x = .returned (.tuple #[.string v, .int .i64 e]) ∧ (if (treeS ns ps root gen).bad = true then (e = 0 ∨ v = ⟨#[]⟩ ∧ (e = 80 ∨ e = 81)) else (v, e) = getP (treeS ns ps root gen).pairs key) ∧ Below V.heap.size V w' := fun V h x => (cG V x).mono fun y w' hh => by
        obtain ⟨v, e, h1, h2, h3⟩ := hh
        unfold GetC at h2
        rw [if_pos hg] at h2
        exact ⟨v, e, h1, h2, h3⟩
      obtain ⟨hr, k1, k2⟩ := hg
      rw [hr] at cR
      have k1' : ¬ (key.size : Int) < 1 := by omega
      have k2' : ¬ (32 : Int) < key.size := by omega
      clear hr k1 k2
      generalize treeS ns ps root gen = tr at *
      cases hbad : tr.bad with
      | true =>
        replace cG : ∀ V {h : Nat}, WoodIn V h a n c a' n' c' b p f bs ns ps root gen → Calls Try.prog 15 #[.agg #[.slice a n c, .slice a' n' c', .slice b p f, .int .i64 root, .int .i64 gen], .string key] V fun x w' => ∃ v e, x = .returned (.tuple #[.string v, .int .i64 e]) ∧ (e = 0 ∨ v = ⟨#[]⟩ ∧ (e = 80 ∨ e = 81)) ∧ Below V.heap.size V w' := fun V h x => (cG V x).mono fun y w' hh => by
          obtain ⟨v, e, h1, h2, h3⟩ := hh
          rw [if_pos hbad] at h2
          exact ⟨v, e, h1, h2, h3⟩
        go_enter Try.func4, Try.ntmps4
        go_wp2_with (first
            | (go_at_call 8; rw [← hW]; refine (cS _).mono ?_; rintro y w1 ⟨rfl, hb⟩; replace WI := WI.below hb; replace HB := Below.tr HB hb; clear x0 x1 x2 x3 x4; obtain ⟨x0, x1, x2, x3, x4⟩ := WI.1; clear hb)
            | (go_at_call 15; refine (cG _ WI).mono ?_; rintro y w2 HX; obtain ⟨v, e, rfl, HV, hb⟩ := HX; skip; replace WI := WI.below hb; replace HB := Below.tr HB hb; clear x0 x1 x2 x3 x4; obtain ⟨x0, x1, x2, x3, x4⟩ := WI.1; clear hb)
            | (go_at_call 11; refine (cR _ WI).mono ?_; rintro y w3 ⟨rfl, hb⟩; replace WI := WI.below hb; replace HB := Below.tr HB hb; clear x0 x1 x2 x3 x4; obtain ⟨x0, x1, x2, x3, x4⟩ := WI.1; clear hb)
            | (go_at_call 16; refine (cT _ WI).mono ?_; rintro y w4 ⟨u1, u2, rfl, TA, hb⟩; have hlo : w3.heap.size ≤ w4.heap.size := hb.size; replace HB := Below.tr HB hb; clear x0 x1 x2 x3 x4 WI; obtain ⟨qa, qc, eu, IQ, -⟩ := owned_isQ TA.r1 rfl OKP.out; obtain ⟨⟨q0, q1, q2, q3⟩, -⟩ := TA.box; rw [eu] at q0; rw [hbad] at q3; clear hb eu)
            )
        rcases HV with rfl | ⟨rfl, rfl | rfl⟩
        all_goals (go_wp2_with (go_at_call 9; refine (cA _).mono ?_; rintro y w5 ⟨rfl, hb⟩; replace HB := Below.tr HB hb; clear hb))
        all_goals (go_ret; exact ⟨rfl, HB⟩)
      | false =>
        replace cG : ∀ V {h : Nat}, WoodIn V h a n c a' n' c' b p f bs ns ps root gen → Calls Try.prog 15 #[.agg #[.slice a n c, .slice a' n' c', .slice b p f, .int .i64 root, .int .i64 gen], .string key] V fun x w' => ∃ v e, x = .returned (.tuple #[.string v, .int .i64 e]) ∧ ((v, e) = getP tr.pairs key) ∧ Below V.heap.size V w' := fun V h x => (cG V x).mono fun y w' hh => by
          obtain ⟨v, e, h1, h2, h3⟩ := hh
          rw [if_neg (by rw [hbad]; decide)] at h2
          exact ⟨v, e, h1, h2, h3⟩
        go_enter Try.func4, Try.ntmps4
        go_wp2_with (first
            | (go_at_call 8; rw [← hW]; refine (cS _).mono ?_; rintro y w1 ⟨rfl, hb⟩; replace WI := WI.below hb; replace HB := Below.tr HB hb; clear x0 x1 x2 x3 x4; obtain ⟨x0, x1, x2, x3, x4⟩ := WI.1; clear hb)
            | (go_at_call 15; refine (cG _ WI).mono ?_; rintro y w2 HX; obtain ⟨v, e, rfl, HV, hb⟩ := HX; skip; replace WI := WI.below hb; replace HB := Below.tr HB hb; clear x0 x1 x2 x3 x4; obtain ⟨x0, x1, x2, x3, x4⟩ := WI.1; clear hb)
            | (go_at_call 11; refine (cR _ WI).mono ?_; rintro y w3 ⟨rfl, hb⟩; replace WI := WI.below hb; replace HB := Below.tr HB hb; clear x0 x1 x2 x3 x4; obtain ⟨x0, x1, x2, x3, x4⟩ := WI.1; clear hb)
            | (go_at_call 16; refine (cT _ WI).mono ?_; rintro y w4 ⟨u1, u2, rfl, TA, hb⟩; have hlo : w3.heap.size ≤ w4.heap.size := hb.size; replace HB := Below.tr HB hb; clear x0 x1 x2 x3 x4 WI; obtain ⟨qa, qc, eu, IQ, -⟩ := owned_isQ TA.r1 rfl OKP.out; obtain ⟨⟨q0, q1, q2, q3⟩, -⟩ := TA.box; rw [eu] at q0; rw [hbad] at q3; clear hb eu)
            | (go_at_call 17; refine (refGetP_any _ _ _ _ key _ rfl IQ).mono ?_; rintro y w6 ⟨rfl, hb⟩; rw [← HV]; replace HB := Below.tr HB hb; clear hb q0 q1 q2 q3 IQ)
            | (go_at_call 9; refine (cA _).mono ?_; rintro y w5 ⟨rfl, hb⟩; replace HB := Below.tr HB hb; clear hb)
            )
        go_ret
        exact ⟨rfl, HB⟩
    · replace cG : ∀ V {h : Nat}, WoodIn V h a n c a' n' c' b p f bs ns ps root gen → Calls Try.prog 15 #[.agg #[.slice a n c, .slice a' n' c', .slice b p f, .int .i64 root, .int .i64 gen], .string key] V fun x w' => ∃ v e, x = .returned (.tuple #[.string v, .int .i64 e]) ∧ (v = ⟨#[]⟩ ∧ e = 1) ∧ Below V.heap.size V w' := fun V h x => (cG V x).mono fun y w' hh => by
        obtain ⟨v, e, h1, h2, h3⟩ := hh
        unfold GetC at h2
        rw [if_neg hg] at h2
        exact ⟨v, e, h1, h2, h3⟩
      cases hr : rightW bs ns ps root gen with
      | false =>
        rw [hr] at cR
        clear hg hr cT
        go_enter Try.func4, Try.ntmps4
        go_wp2_with (first
            | (go_at_call 8; rw [← hW]; refine (cS _).mono ?_; rintro y w1 ⟨rfl, hb⟩; replace WI := WI.below hb; replace HB := Below.tr HB hb; clear x0 x1 x2 x3 x4; obtain ⟨x0, x1, x2, x3, x4⟩ := WI.1; clear hb)
            | (go_at_call 15; refine (cG _ WI).mono ?_; rintro y w2 HX; obtain ⟨v, e, rfl, HV, hb⟩ := HX; obtain ⟨rfl, rfl⟩ := HV; replace WI := WI.below hb; replace HB := Below.tr HB hb; clear x0 x1 x2 x3 x4; obtain ⟨x0, x1, x2, x3, x4⟩ := WI.1; clear hb)
            | (go_at_call 11; refine (cR _ WI).mono ?_; rintro y w3 ⟨rfl, hb⟩; replace WI := WI.below hb; replace HB := Below.tr HB hb; clear x0 x1 x2 x3 x4; obtain ⟨x0, x1, x2, x3, x4⟩ := WI.1; clear hb)
            | (go_at_call 9; refine (cA _).mono ?_; rintro y w5 ⟨rfl, hb⟩; replace HB := Below.tr HB hb; clear hb)
            )
        go_ret
        exact ⟨rfl, HB⟩
      | true =>
        rw [hr] at cR
        by_cases k1 : key.size < 1
        · have k1' : (key.size : Int) < 1 := by omega
          clear hg hr cT
          go_enter Try.func4, Try.ntmps4
          go_wp2_with (first
              | (go_at_call 8; rw [← hW]; refine (cS _).mono ?_; rintro y w1 ⟨rfl, hb⟩; replace WI := WI.below hb; replace HB := Below.tr HB hb; clear x0 x1 x2 x3 x4; obtain ⟨x0, x1, x2, x3, x4⟩ := WI.1; clear hb)
              | (go_at_call 15; refine (cG _ WI).mono ?_; rintro y w2 HX; obtain ⟨v, e, rfl, HV, hb⟩ := HX; obtain ⟨rfl, rfl⟩ := HV; replace WI := WI.below hb; replace HB := Below.tr HB hb; clear x0 x1 x2 x3 x4; obtain ⟨x0, x1, x2, x3, x4⟩ := WI.1; clear hb)
              | (go_at_call 11; refine (cR _ WI).mono ?_; rintro y w3 ⟨rfl, hb⟩; replace WI := WI.below hb; replace HB := Below.tr HB hb; clear x0 x1 x2 x3 x4; obtain ⟨x0, x1, x2, x3, x4⟩ := WI.1; clear hb)
              | (go_at_call 9; refine (cA _).mono ?_; rintro y w5 ⟨rfl, hb⟩; replace HB := Below.tr HB hb; clear hb)
              )
          go_ret
          exact ⟨rfl, HB⟩
        · have k1' : ¬ (key.size : Int) < 1 := by omega
          have k2' : (32 : Int) < key.size := by
            have : ¬ key.size ≤ 32 := fun h => hg ⟨hr, by omega, h⟩
            omega
          clear hg hr cT k1
          go_enter Try.func4, Try.ntmps4
          go_wp2_with (first
              | (go_at_call 8; rw [← hW]; refine (cS _).mono ?_; rintro y w1 ⟨rfl, hb⟩; replace WI := WI.below hb; replace HB := Below.tr HB hb; clear x0 x1 x2 x3 x4; obtain ⟨x0, x1, x2, x3, x4⟩ := WI.1; clear hb)
              | (go_at_call 15; refine (cG _ WI).mono ?_; rintro y w2 HX; obtain ⟨v, e, rfl, HV, hb⟩ := HX; obtain ⟨rfl, rfl⟩ := HV; replace WI := WI.below hb; replace HB := Below.tr HB hb; clear x0 x1 x2 x3 x4; obtain ⟨x0, x1, x2, x3, x4⟩ := WI.1; clear hb)
              | (go_at_call 11; refine (cR _ WI).mono ?_; rintro y w3 ⟨rfl, hb⟩; replace WI := WI.below hb; replace HB := Below.tr HB hb; clear x0 x1 x2 x3 x4; obtain ⟨x0, x1, x2, x3, x4⟩ := WI.1; clear hb)
              | (go_at_call 9; refine (cA _).mono ?_; rintro y w5 ⟨rfl, hb⟩; replace HB := Below.tr HB hb; clear hb)
              )
          go_ret
          exact ⟨rfl, HB⟩

end Go.Proofs.Ytmldemgciidpbaa

namespace Go.Proofs.Ytmldemgciidpbaa
open Go.RowKit Plain Anylast
set_option linter.unusedVariables false

set_option maxRecDepth 20000 in
set_option maxHeartbeats 1000000 in
/-- VALUE, of a leaf. -/
theorem value_any (a a' a'' : Option Addr) (c c' c'' n n' n'' : Nat) (ks vs : List ByteArray) (cs : List Int) (key : ByteArray) (w : World) (hn : n = ks.length) (hn' : n' = vs.length) (hn'' : n'' = cs.length) (hK : IsS w a c ks) (hV : IsS w a' c' vs) (hC : IsI w a'' c'' cs) (hst : standsN true ks vs cs = true) :
    Calls Try.prog 48 #[.agg #[.bool true, .slice a n c, .slice a' n' c', .slice a'' n'' c''], .string key] w fun e w' => e = .returned (.tuple #[.string (getP (ks.zip vs) key).1, .int .i64 (getP (ks.zip vs) key).2]) ∧ Below w.heap.size w w' := by
  obtain ⟨W, hW⟩ : ∃ W, W = w.alloc (.cells #[.bool true, .slice a n c, .slice a' n' c', .slice a'' n'' c''] 32) := ⟨_, rfl⟩
  have HB : Below w.heap.size w W := by rw [hW]; exact (Below.refl _ _).alloc (Nat.le_refl _) _
  have BN : Box4 W w.heap.size (.bool true) (.slice a n c) (.slice a' n' c') (.slice a'' n'' c'') := by rw [hW]; exact box4_new _ _ _ _ _ _ rfl
  have cF := nodeFind_any true a a' a'' c c' c'' n n' n'' ks vs cs key W hn hn' hn'' (hK.below HB) (hV.below HB) (hC.below HB)
  have e1 : findR true ks vs cs key = (findN key ks : Nat) := by unfold findR; rw [if_pos hst]
  have e2 : findI true ks vs cs key = isN ks key := by unfold findI; rw [hst]; rfl
  rw [e1, e2] at cF
  obtain ⟨_, _, hr, _, _, hsh⟩ := standsN_iff.1 hst
  have hlen : vs.length = ks.length := (shape_leaf.1 hsh).1
  have hg := leaf_get hr hlen key
  obtain ⟨⟨v, e⟩, hve⟩ : ∃ x, x = getP (ks.zip vs) key := ⟨_, rfl⟩
  rw [← hve] at hg ⊢
  have mn' : n' ≤ 9223372036854775807 := by rw [hn']; exact Nat.le_trans hV.1 hV.2.1
  obtain ⟨⟨x0, x1, x2, x3⟩, -⟩ := id (hW ▸ BN)
  obtain ⟨i, hi⟩ : ∃ i, i = findN key ks := ⟨_, rfl⟩
  rw [← hi] at cF hg
  cases his : isN ks key with
  | false =>
    rw [his] at cF hg
    rw [if_neg (by decide)] at hg
    obtain ⟨rfl, rfl⟩ := Prod.mk.inj hg
    clear hn hn' hn'' hK hV hC hst hr hsh hlen hve e1 e2 hi his hg
    go_enter Try.func48, Try.ntmps48
    go_wp2_with (go_at_call 62; rw [← hW]; refine cF.mono ?_; rintro y w1 ⟨rfl, hb⟩; replace HB := Below.tr HB hb; clear x0 x1 x2 x3)
    go_ret2
    exact ⟨rfl, HB⟩
  | true =>
    have hik := (List.getElem?_eq_some_iff.1 (isN_iff.1 his)).1
    rw [his] at cF hg
    rw [if_pos rfl] at hg
    obtain ⟨u, hu⟩ : ∃ u, vs[i]? = some u := ⟨_, List.getElem?_eq_getElem (by omega)⟩
    rw [getD_some hu] at hg
    obtain ⟨rfl, rfl⟩ := Prod.mk.inj hg
    obtain ⟨b, o, rfl, -, hc, -⟩ := hV.2.2 i v hu
    have z := cell_below HB hc
    have hi' : (i : Int) < n' := by omega
    clear hn hn' hn'' hK hV hC hst hr hsh hlen hve e1 e2 hi his hg hik hu hc
    go_enter Try.func48, Try.ntmps48
    go_wp2_with (go_at_call 62; rw [← hW]; refine cF.mono ?_; rintro y w1 ⟨rfl, hb⟩; replace HB := Below.tr HB hb; replace BN := BN.below hb; replace z := cell_below hb z; clear x0 x1 x2 x3; obtain ⟨⟨x0, x1, x2, x3⟩, -⟩ := id BN)
    go_ret2
    exact ⟨rfl, HB⟩

/-- How far it may still go down. -/
def depthLeft (g : Nat) (V : World) : Nat := match V.cell? ⟨g, 1, none⟩ with
  | some v => (9 - intOf v).toNat
  | none => 0

theorem depthLeft_at {g : Nat} {V : World} {d : Int} (h : V.cell? ⟨g, 1, none⟩ = some (.int .i64 d)) : depthLeft g V = (9 - d).toNat := by unfold depthLeft; rw [h]; rfl

/-- The values of a step down. -/
def downV (block d : Int) (low high : ByteArray) (a1 : Option Addr) (k1 d1 : Nat) (a2 : Option Addr) (k2 d2 : Nat) (a3 : Option Addr) (k3 d3 : Nat) (key : ByteArray) (i : Nat) (block' d' : Int) (low' high' : ByteArray) : Nat → Value
  | 0 => .agg #[.int .i64 block, .int .i64 d, .string low, .string high]
  | 1 => .agg #[.bool false, .slice a1 k1 d1, .slice a2 k2 d2, .slice a3 k3 d3]
  | 2 => .agg #[.bool false, .slice a1 k1 d1, .slice a2 k2 d2, .slice a3 k3 d3]
  | 3 => .string key
  | 4 => .int .i64 i
  | 5 => .agg #[.int .i64 block', .int .i64 d', .string low', .string high']
  | _ => undef

set_option maxRecDepth 20000 in
set_option maxHeartbeats 4000000 in
/-- FIND. -/
theorem find_any (w V : World) (h : Nat) (a a' b : Option Addr) (n c n' c' p f : Nat) (ns : List Bool) (ps : List ByteArray) (root gen : Int) (key : ByteArray) (hn' : n' = ns.length) (hp : p = ps.length) (hpn : p = n') (hV : Below w.heap.size w V) (hwh : w.heap.size ≤ h) (hB' : IsB w a' c' ns) (hP : IsS w b f ps)
    (WB : WalkBox V h (.slice a n c) (.slice a' n' c') (.slice b p f) (.int .i64 root) (.int .i64 gen) 0) :
    Calls Try.prog 31 #[.pointer (some ⟨h, 0, none⟩), .string key] V fun x V' => x = .returned (.tuple #[.string (findS (holdsS ns ps gen) key 8 root ⟨#[]⟩ ⟨#[]⟩).1, .int .i64 (findS (holdsS ns ps gen) key 8 root ⟨#[]⟩ ⟨#[]⟩).2]) ∧ Below w.heap.size w V' := by
  have hlt : h < V.heap.size := cell_lt WB.2.1
  have cT := top_any V h _ _ _ _ root WB.1
  have cV : ∀ U block d low high (k : Nat), Below w.heap.size w U → k ≤ 8 → d = 9 - (k : Int) → WalkBox U h (.slice a n c) (.slice a' n' c') (.slice b p f) (.int .i64 root) (.int .i64 gen) 0 → Calls Try.prog 47 #[.pointer (some ⟨h, 0, none⟩), .agg #[.int .i64 block, .int .i64 d, .string low, .string high]] U fun x V' => VisitC U h (.slice a n c) (.slice a' n' c') (.slice b p f) (.int .i64 root) (.int .i64 gen) x V' (levelO (visitS (holdsS ns ps gen) 0 k block low high) 0 d) (nodeO (visitS (holdsS ns ps gen) 0 k block low high)) (errO (visitS (holdsS ns ps gen) 0 k block low high)) := fun U block d low high k hU hk hd hW => visit_any w U h a a' b n c n' c' p f ns ps root gen block d low high k 0 hn' hp hpn hU hB' hP hk hd hW
  have stands : ∀ k block low high nd, visitS (holdsS ns ps gen) 0 (k + 1) block low high = some nd → standsN nd.1 nd.2.1 nd.2.2.1 nd.2.2.2 = true := fun k block low high nd hh => (rightN_iff.1 (holds_right (visitS_some hh).1)).1
  have HS : Hid (∀ k block low high nd, visitS (holdsS ns ps gen) 0 (k + 1) block low high = some nd → standsN nd.1 nd.2.1 nd.2.2.1 nd.2.2.2 = true) := stands
  obtain ⟨H, hH⟩ : ∃ H, H = holdsS ns ps gen := ⟨_, rfl⟩
  rw [← hH] at cV HS ⊢
  obtain ⟨⟨v, e⟩, hve⟩ : ∃ x, x = findS H key 8 root ⟨#[]⟩ ⟨#[]⟩ := ⟨_, rfl⟩
  rw [← hve]
  have VE : Hid ((v, e) = findS H key 8 root ⟨#[]⟩ ⟨#[]⟩) := hve
  clear hve hH stands hB' hP hn' hp hpn
  have HB : Below w.heap.size w V := hV
  clear hV
  go_enter Try.func31, Try.ntmps31
  go_wp2_with (go_at_call 34; refine cT.mono ?_; rintro y w1 ⟨rfl, hb⟩; have hA : Below w1.heap.size w1 (w1.alloc (.cells #[.int .i64 root, .int .i64 1, .string ⟨#[]⟩, .string ⟨#[]⟩] 78)) := (Below.refl _ _).alloc (Nat.le_refl _) _; have BP := box4_new w1 (.int .i64 root) (.int .i64 1) (.string ⟨#[]⟩) (.string ⟨#[]⟩) 78 rfl; replace WB := (WB.below hb).below hA; replace HB := Below.tr (Below.tr HB hb) hA; have hgh : h < w1.heap.size := (Nat.lt_of_lt_of_le hlt hb.size); clear hb hA)
  go_loopw [] (fun wr => ∃ (k : Nat) (block : Int) (low high : ByteArray), k ≤ 8 ∧ (v, e) = findS H key k block low high ∧ Box4 wr w1.heap.size (.int .i64 block) (.int .i64 (9 - (k : Int))) (.string low) (.string high) ∧ WalkBox wr h (.slice a n c) (.slice a' n' c') (.slice b p f) (.int .i64 root) (.int .i64 gen) 0 ∧ Below w.heap.size w wr) (fun wr => depthLeft w1.heap.size wr)
  case atStart => exact ⟨8, root, ⟨#[]⟩, ⟨#[]⟩, Nat.le_refl _, VE.out, BP, WB, HB⟩
  case round =>
    obtain ⟨k, block, low, high, hk, hve, BP, WB, HB⟩ := hrel
    have VE2 : Hid ((v, e) = findS H key k block low high) := hve
    clear hve VE
    have hg1 : Hid (w1.heap.size < wr.heap.size) := BP.lt
    obtain ⟨d, hd⟩ : ∃ d, d = 9 - (k : Int) := ⟨_, rfl⟩
    rw [← hd] at BP
    have HD : Hid (d = 9 - (k : Int)) := hd
    have HK : Hid (k ≤ 8) := hk
    have hm0 : Hid (depthLeft w1.heap.size wr = k) := by show _ = _; rw [depthLeft_at BP.1.2.1, hd]; omega
    obtain ⟨O, hO⟩ : ∃ O, O = visitS H 0 k block low high := ⟨_, rfl⟩
    have cv0 := fun U hU hW => cV U block d low high k hU hk hd hW
    rw [← hO] at cv0
    obtain ⟨⟨p0, p1, p2, p3⟩, -⟩ := id BP
    clear cV hd hk
    cases O with
    | none =>
      have hf : (v, e) = (⟨#[]⟩, 81) := by
        rw [VE2.out]
        cases k with
        | zero => rfl
        | succ k => rw [findS, ← hO]
      obtain ⟨rfl, rfl⟩ := Prod.mk.inj hf
      obtain ⟨⟨ks, vs, cs⟩, hks⟩ : ∃ x : List ByteArray × List ByteArray × List Int, x = ([], [], []) := ⟨_, rfl⟩
      have cv : ∀ U, Below w.heap.size w U → WalkBox U h (.slice a n c) (.slice a' n' c') (.slice b p f) (.int .i64 root) (.int .i64 gen) 0 → Calls Try.prog 47 #[.pointer (some ⟨h, 0, none⟩), .agg #[.int .i64 block, .int .i64 d, .string low, .string high]] U fun x V' => VisitC U h (.slice a n c) (.slice a' n' c') (.slice b p f) (.int .i64 root) (.int .i64 gen) x V' 0 (false, ks, vs, cs) 81 := fun U hU hW => by have := cv0 U hU hW; rw [hks]; exact this
      clear cv0 hf hO VE2 hks HD HK
      go_wp2_with (go_at_call 47; refine (cv _ HB WB).mono ?_; rintro y w2 ⟨k1, a1, d1, k2, a2, d2, k3, a3, d3, rfl, e1, e2, e3, i1, i2, i3, j1, j2, j3, WB2, O5⟩; have hA : Below w2.heap.size w2 (w2.alloc (.cells #[.bool false, .slice a1 k1 d1, .slice a2 k2 d2, .slice a3 k3 d3] 32)) := (Below.refl _ _).alloc (Nat.le_refl _) _; have BN := box4_new w2 (.bool false) (.slice a1 k1 d1) (.slice a2 k2 d2) (.slice a3 k3 d3) 32 rfl; replace HB := Below.tr (Below.turns HB O5.t (fun i hi => by omega)) hA; replace BP := (BP.turns O5.t (by omega)).below hA; replace WB := WB2.below hA; clear p0 p1 p2 p3; obtain ⟨⟨p0, p1, p2, p3⟩, pf0, pf1, pf2, pf3⟩ := id BP; obtain ⟨⟨n0, n1, n2, n3⟩, -⟩ := id BN; have E : Hid (k1 = ks.length ∧ k2 = vs.length ∧ k3 = cs.length) := ⟨e1, e2, e3⟩; have I : Hid (IsS (w2.alloc (.cells #[.bool false, .slice a1 k1 d1, .slice a2 k2 d2, .slice a3 k3 d3] 32)) a1 d1 ks ∧ IsS (w2.alloc (.cells #[.bool false, .slice a1 k1 d1, .slice a2 k2 d2, .slice a3 k3 d3] 32)) a2 d2 vs ∧ IsI (w2.alloc (.cells #[.bool false, .slice a1 k1 d1, .slice a2 k2 d2, .slice a3 k3 d3] 32)) a3 d3 cs) := ⟨i1.below hA, i2.below hA, i3.below hA⟩; have hgw : w1.heap.size < w2.heap.size := (by have := BP.lt; simp at this; have h2 := O5.t.size; have h3 := hg1.out; omega); clear WB2 O5 hA e1 e2 e3 i1 i2 i3 j1 j2 j3)
      go_ret2
      exact ⟨rfl, HB⟩
    | some nd =>
      obtain ⟨l, ks, vs, cs⟩ := nd
      cases k with
      | zero => cases hO
      | succ k =>
        have hst : standsN l ks vs cs = true := HS.out _ _ _ _ _ hO.symm
        have VE3 : (v, e) = if l = true then getP (ks.zip vs) key else findS H key k (cs.getD (kidN ks key) 0) (kidFrom low ks (kidN ks key)) (kidTo high ks (kidN ks key)) := by rw [VE2.out, findS, ← hO]
        clear VE2 hO
        cases l with
        | true =>
          replace VE3 : (v, e) = getP (ks.zip vs) key := VE3
          have cv : ∀ U, Below w.heap.size w U → WalkBox U h (.slice a n c) (.slice a' n' c') (.slice b p f) (.int .i64 root) (.int .i64 gen) 0 → Calls Try.prog 47 #[.pointer (some ⟨h, 0, none⟩), .agg #[.int .i64 block, .int .i64 d, .string low, .string high]] U fun x V' => VisitC U h (.slice a n c) (.slice a' n' c') (.slice b p f) (.int .i64 root) (.int .i64 gen) x V' d (true, ks, vs, cs) 0 := cv0
          have cX : ∀ U a1 d1 k1 a2 d2 k2 a3 d3 k3, k1 = ks.length → k2 = vs.length → k3 = cs.length → IsS U a1 d1 ks → IsS U a2 d2 vs → IsI U a3 d3 cs → Calls Try.prog 48 #[.agg #[.bool true, .slice a1 k1 d1, .slice a2 k2 d2, .slice a3 k3 d3], .string key] U fun x w' => x = .returned (.tuple #[.string v, .int .i64 e]) ∧ Below U.heap.size U w' := fun U a1 d1 k1 a2 d2 k2 a3 d3 k3 h1 h2 h3 i1 i2 i3 => by have := value_any a1 a2 a3 d1 d2 d3 k1 k2 k3 ks vs cs key U h1 h2 h3 i1 i2 i3 hst; rw [← VE3] at this; exact this
          clear cv0 VE3 hst HD HK
          go_wp2_with (first
            | (go_at_call 47; refine (cv _ HB WB).mono ?_; rintro y w2 ⟨k1, a1, d1, k2, a2, d2, k3, a3, d3, rfl, e1, e2, e3, i1, i2, i3, j1, j2, j3, WB2, O5⟩; have hA : Below w2.heap.size w2 (w2.alloc (.cells #[.bool true, .slice a1 k1 d1, .slice a2 k2 d2, .slice a3 k3 d3] 32)) := (Below.refl _ _).alloc (Nat.le_refl _) _; have BN := box4_new w2 (.bool true) (.slice a1 k1 d1) (.slice a2 k2 d2) (.slice a3 k3 d3) 32 rfl; replace HB := Below.tr (Below.turns HB O5.t (fun i hi => by omega)) hA; replace BP := (BP.turns O5.t (by omega)).below hA; replace WB := WB2.below hA; clear p0 p1 p2 p3; obtain ⟨⟨p0, p1, p2, p3⟩, pf0, pf1, pf2, pf3⟩ := id BP; obtain ⟨⟨n0, n1, n2, n3⟩, -⟩ := id BN; have E : Hid (k1 = ks.length ∧ k2 = vs.length ∧ k3 = cs.length) := ⟨e1, e2, e3⟩; have I : Hid (IsS (w2.alloc (.cells #[.bool true, .slice a1 k1 d1, .slice a2 k2 d2, .slice a3 k3 d3] 32)) a1 d1 ks ∧ IsS (w2.alloc (.cells #[.bool true, .slice a1 k1 d1, .slice a2 k2 d2, .slice a3 k3 d3] 32)) a2 d2 vs ∧ IsI (w2.alloc (.cells #[.bool true, .slice a1 k1 d1, .slice a2 k2 d2, .slice a3 k3 d3] 32)) a3 d3 cs) := ⟨i1.below hA, i2.below hA, i3.below hA⟩; have hgw : w1.heap.size < w2.heap.size := (by have := BP.lt; simp at this; have h2 := O5.t.size; have h3 := hg1.out; omega); clear WB2 O5 hA e1 e2 e3 i1 i2 i3 j1 j2 j3)
            | (go_at_call 48; refine (cX _ a1 d1 k1 a2 d2 k2 a3 d3 k3 E.out.1 E.out.2.1 E.out.2.2 I.out.1 I.out.2.1 I.out.2.2).mono ?_; rintro y w3 ⟨rfl, hb⟩; replace HB := Below.tr HB hb))
          go_ret2
          exact ⟨rfl, HB⟩
        | false =>
          replace VE3 : (v, e) = findS H key k (cs.getD (kidN ks key) 0) (kidFrom low ks (kidN ks key)) (kidTo high ks (kidN ks key)) := VE3
          have cv : ∀ U, Below w.heap.size w U → WalkBox U h (.slice a n c) (.slice a' n' c') (.slice b p f) (.int .i64 root) (.int .i64 gen) 0 → Calls Try.prog 47 #[.pointer (some ⟨h, 0, none⟩), .agg #[.int .i64 block, .int .i64 d, .string low, .string high]] U fun x V' => VisitC U h (.slice a n c) (.slice a' n' c') (.slice b p f) (.int .i64 root) (.int .i64 gen) x V' 0 (false, ks, vs, cs) 0 := cv0
          obtain ⟨i, hi⟩ : ∃ i, i = kidN ks key := ⟨_, rfl⟩
          have hsh := shape_inner.1 (standsN_iff.1 hst).2.2.2.2.2
          have hik : i < cs.length := by have := kidN_le ks key; omega
          obtain ⟨kb, hkb⟩ : ∃ x, cs[i]? = some x := ⟨_, List.getElem?_eq_getElem hik⟩
          have hkr : kidR false ks vs cs key = (i : Nat) := by unfold kidR; rw [if_pos ⟨hst, rfl⟩, hi]
          rw [← hi, getD_some hkb] at VE3
          have hd' : d + 1 = 9 - (k : Int) := by have := HD.out; omega
          have hdr : 0 ≤ d ∧ d ≤ 100 := by have := HD.out; have := HK.out; omega
          have cK : ∀ U a1 d1 k1 a2 d2 k2 a3 d3 k3, k1 = ks.length → k2 = vs.length → k3 = cs.length → IsS U a1 d1 ks → IsS U a2 d2 vs → IsI U a3 d3 cs → Calls Try.prog 50 #[.agg #[.bool false, .slice a1 k1 d1, .slice a2 k2 d2, .slice a3 k3 d3], .string key] U fun x w' => x = .returned (.int .i64 i) ∧ Below U.heap.size U w' := fun U a1 d1 k1 a2 d2 k2 a3 d3 k3 h1 h2 h3 i1 i2 i3 => by have := nodeKid_any false a1 a2 a3 d1 d2 d3 k1 k2 k3 ks vs cs key U h1 h2 h3 i1 i2 i3; rw [hkr] at this; exact this
          obtain ⟨x, hx⟩ : ∃ x, x = kidFrom low ks i := ⟨_, rfl⟩
          obtain ⟨z, hz⟩ : ∃ z, z = kidTo high ks i := ⟨_, rfl⟩
          have cD : ∀ U a1 d1 k1 a2 d2 k2 a3 d3 k3, k1 = ks.length → k3 = cs.length → IsS U a1 d1 ks → IsI U a3 d3 cs → Calls Try.prog 49 #[.agg #[.int .i64 block, .int .i64 d, .string low, .string high], .agg #[.bool false, .slice a1 k1 d1, .slice a2 k2 d2, .slice a3 k3 d3], .int .i64 i] U fun x' w' => x' = .returned (.agg #[.int .i64 kb, .int .i64 (9 - (k : Int)), .string x, .string z]) ∧ Below U.heap.size U w' := fun U a1 d1 k1 a2 d2 k2 a3 d3 k3 h1 h3 i1 i3 => by have := placeBelow_any block d low high false a1 a2 a3 k1 d1 k2 d2 k3 d3 ks vs cs i kb U h1 h3 i1 i3 hkb (by omega) hdr; rw [hd', ← hx, ← hz] at this; exact this
          rw [← hx, ← hz] at VE3
          have VE4 : Hid ((v, e) = findS H key k kb x z) := VE3
          clear cv0 VE3 hst hi hsh hik hkb hkr hd' hdr hx hz
          go_wp2_with (go_at_call 47; refine (cv _ HB WB).mono ?_; rintro y w2 ⟨k1, a1, d1, k2, a2, d2, k3, a3, d3, rfl, e1, e2, e3, i1, i2, i3, j1, j2, j3, WB2, O5⟩; have hA : Below w2.heap.size w2 (w2.alloc (.cells #[.bool false, .slice a1 k1 d1, .slice a2 k2 d2, .slice a3 k3 d3] 32)) := (Below.refl _ _).alloc (Nat.le_refl _) _; have BN := box4_new w2 (.bool false) (.slice a1 k1 d1) (.slice a2 k2 d2) (.slice a3 k3 d3) 32 rfl; replace HB := Below.tr (Below.turns HB O5.t (fun i hi => by omega)) hA; replace BP := (BP.turns O5.t (by omega)).below hA; replace WB := WB2.below hA; clear p0 p1 p2 p3; obtain ⟨⟨p0, p1, p2, p3⟩, pf0, pf1, pf2, pf3⟩ := id BP; obtain ⟨⟨n0, n1, n2, n3⟩, -⟩ := id BN; have E : Hid (k1 = ks.length ∧ k2 = vs.length ∧ k3 = cs.length) := ⟨e1, e2, e3⟩; have I : Hid (IsS (w2.alloc (.cells #[.bool false, .slice a1 k1 d1, .slice a2 k2 d2, .slice a3 k3 d3] 32)) a1 d1 ks ∧ IsS (w2.alloc (.cells #[.bool false, .slice a1 k1 d1, .slice a2 k2 d2, .slice a3 k3 d3] 32)) a2 d2 vs ∧ IsI (w2.alloc (.cells #[.bool false, .slice a1 k1 d1, .slice a2 k2 d2, .slice a3 k3 d3] 32)) a3 d3 cs) := ⟨i1.below hA, i2.below hA, i3.below hA⟩; have hgw : w1.heap.size < w2.heap.size := (by have := BP.lt; simp at this; have h2 := O5.t.size; have h3 := hg1.out; omega); clear WB2 O5 hA e1 e2 e3 i1 i2 i3 j1 j2 j3)
          have hU := (Below.refl (w2.alloc (.cells #[.bool false, .slice a1 k1 d1, .slice a2 k2 d2, .slice a3 k3 d3] 32)).heap.size (w2.alloc (.cells #[.bool false, .slice a1 k1 d1, .slice a2 k2 d2, .slice a3 k3 d3] 32))).drew
          refine region_vals (by kernel_rfl) 6 (downV block d low high a1 k1 d1 a2 k2 d2 a3 k3 d3 key i kb (9 - (k : Int)) x z)
            (fun X => Box4 X w1.heap.size (.int .i64 block) (.int .i64 d) (.string low) (.string high) ∧ Box4 X w2.heap.size (.bool false) (.slice a1 k1 d1) (.slice a2 k2 d2) (.slice a3 k3 d3) ∧ (IsS X a1 d1 ks ∧ IsS X a2 d2 vs ∧ IsI X a3 d3 cs) ∧ WalkBox X h (.slice a n c) (.slice a' n' c') (.slice b p f) (.int .i64 root) (.int .i64 gen) 0 ∧ Below w.heap.size w X)
            (fun X => Box4 X w1.heap.size (.int .i64 kb) (.int .i64 (9 - (k : Int))) (.string x) (.string z) ∧ WalkBox X h (.slice a n c) (.slice a' n' c') (.slice b p f) (.int .i64 root) (.int .i64 gen) 0 ∧ Below w.heap.size w X) (by kernel_rfl) (by kernel_rfl) ⟨BP.below hU, BN.below hU, ⟨I.out.1.below hU, I.out.2.1.below hU, I.out.2.2.below hU⟩, WB.below hU, Below.tr HB hU⟩ ?step 7 rfl ?done
          case step =>
            clear p0 p1 p2 p3 pf0 pf1 pf2 pf3 n0 n1 n2 n3 hU BP BN I WB HB
            intro j oo ho a9 X hS hdf hsz hdep hsame
            obtain ⟨BP, BN, I, WB, HB⟩ := id hS
            obtain ⟨⟨p0, p1, p2, p3⟩, pf0, pf1, pf2, pf3⟩ := id BP
            obtain ⟨⟨n0, n1, n2, n3⟩, -⟩ := id BN
            match j, ho with
            | 0, ho =>
              cases ho
              have h6 := hsame 6 rfl
              exact val_op rfl (wanted_free rfl) (by clear hdep hsame hsz hdf; simp only [downV]; go_simp) rfl hS
            | 1, ho =>
              cases ho
              have h7 := hsame 7 rfl
              exact val_op rfl (wanted_free rfl) (by clear hdep hsame hsz hdf; simp only [downV]; go_simp) rfl hS
            | 2, ho =>
              cases ho
              have h7 := hsame 7 rfl
              exact val_op rfl (wanted_free rfl) (by clear hdep hsame hsz hdf; simp only [downV]; go_simp) rfl hS
            | 3, ho =>
              cases ho
              have h1 := hsame 1 rfl
              exact val_op rfl (wanted_free rfl) (by clear hdep hsame hsz hdf; simp only [downV]; go_simp) rfl hS
            | 4, ho =>
              cases ho
              have h29 := hdep 2 _ 29 rfl rfl rfl
              have h30 := hdep 3 _ 30 rfl rfl rfl
              simp only [downV] at h29 h30
              exact val_call rfl (wanted_free rfl) (by clear hdep hsame hsz hdf; go_simp) ((cK _ a1 d1 k1 a2 d2 k2 a3 d3 k3 E.out.1 E.out.2.1 E.out.2.2 I.1 I.2.1 I.2.2).mono fun e w'' ⟨he, hb⟩ => ⟨he, BP.below hb, BN.below hb, ⟨I.1.below hb, I.2.1.below hb, I.2.2.below hb⟩, WB.below hb, Below.tr HB hb⟩)
            | 5, ho =>
              cases ho
              have h27 := hdep 0 _ 27 rfl rfl rfl
              have h28 := hdep 1 _ 28 rfl rfl rfl
              have h31 := hdep 4 _ 31 rfl rfl rfl
              simp only [downV] at h27 h28 h31
              exact val_call rfl (wanted_free rfl) (by clear hdep hsame hsz hdf; go_simp) ((cD _ a1 d1 k1 a2 d2 k2 a3 d3 k3 E.out.1 E.out.2.2 I.1 I.2.2).mono fun e w'' ⟨he, hb⟩ => ⟨he, BP.below hb, BN.below hb, ⟨I.1.below hb, I.2.1.below hb, I.2.2.below hb⟩, WB.below hb, Below.tr HB hb⟩)
            | 6, ho =>
              cases ho
              have h6 := hsame 6 rfl
              have h32 := hdep 5 _ 32 rfl rfl rfl
              simp only [downV] at h32
              exact val_skip (w' := (((X.setCell ⟨w1.heap.size, 0, none⟩ (.int .i64 kb)).setCell ⟨w1.heap.size, 1, none⟩ (.int .i64 (9 - (k : Int)))).setCell ⟨w1.heap.size, 2, none⟩ (.string x)).setCell ⟨w1.heap.size, 3, none⟩ (.string z)) rfl (wanted_free rfl) rfl (by clear hdep hsame hsz hdf; go_simp) ⟨BP.put _ _ _ _, WB.put (by omega) _ _ _ _, below_put4 HB (by omega) _ _ _ _⟩
            | n + 7, ho => simp at ho
          case done =>
            rintro X ⟨BP2, WB2, HB2⟩
            simp [filledN, downV]
            go_wp2
            go_roundw
            case rel => exact ⟨k, kb, x, z, by have := HK.out; omega, VE4.out, BP2, WB2, HB2⟩
            case measure => rw [depthLeft_at BP2.1.2.1, hm0.out]; omega

end Go.Proofs.Ytmldemgciidpbaa

namespace Go.Proofs.Ytmldemgciidpbaa
open Go.RowKit Plain Anylast
set_option linter.unusedVariables false

theorem getC_find {ns : List Bool} {ps : List ByteArray} {root gen : Int} (key : ByteArray) (hroot : root ≠ 0) (h1 : 1 ≤ key.size) (h2 : key.size ≤ 32) : GetC true key (treeS ns ps root gen) (findS (holdsS ns ps gen) key 8 root ⟨#[]⟩ ⟨#[]⟩).1 (findS (holdsS ns ps gen) key 8 root ⟨#[]⟩ ⟨#[]⟩).2 := by
  unfold GetC
  rw [if_pos ⟨rfl, h1, h2⟩]
  have ht : treeS ns ps root gen = belowS (holdsS ns ps gen) 8 TreeS.none root ⟨#[]⟩ ⟨#[]⟩ := by unfold treeS; rw [if_neg hroot]
  split
  · exact findS_ends _ _ _ _ _ _
  · rename_i hb
    rw [ht] at hb ⊢
    obtain ⟨_, Q, hQ, hp⟩ := below_sub _ 8 TreeS.none root ⟨#[]⟩ ⟨#[]⟩ (by simpa using hb)
    rw [hp]
    exact findS_sub holds_ing holds_keyed key hQ


set_option maxRecDepth 20000 in
set_option maxHeartbeats 4000000 in
/-- GET. -/
theorem lookGet_any (a a' b : Option Addr) (n c n' c' p f : Nat) (bs ns : List Bool) (ps : List ByteArray) (root gen : Int) (key : ByteArray) (w : World) (hn : n = bs.length) (hn' : n' = ns.length) (hp : p = ps.length) (hB : IsB w a c bs) (hB' : IsB w a' c' ns) (hP : IsS w b f ps) (hkey : key.size ≤ maxLen) :
    Calls Try.prog 15 #[.agg #[.slice a n c, .slice a' n' c', .slice b p f, .int .i64 root, .int .i64 gen], .string key] w fun x w' => ∃ v e, x = .returned (.tuple #[.string v, .int .i64 e]) ∧ GetC (rightW bs ns ps root gen) key (treeS ns ps root gen) v e ∧ Below w.heap.size w w' := by
  obtain ⟨W, hW⟩ : ∃ W, W = w.alloc (.cells #[.slice a n c, .slice a' n' c', .slice b p f, .int .i64 root, .int .i64 gen] 27) := ⟨_, rfl⟩
  have HB : Below w.heap.size w W := by rw [hW]; exact (Below.refl _ _).alloc (Nat.le_refl _) _
  have BW : WoodBox W w.heap.size (.slice a n c) (.slice a' n' c') (.slice b p f) (.int .i64 root) (.int .i64 gen) := by rw [hW]; exact woodBox_new _ _ _ _ _ _ _ rfl
  have cR := lookRight_any a a' b n c n' c' p f bs ns ps root gen W hn hn' hp (hB.below HB) (hB'.below HB) (hP.below HB)
  obtain ⟨x0, x1, x2, x3, x4⟩ := id (hW ▸ BW)
  have mk : key.size ≤ 9223372036854775807 := hkey
  obtain ⟨r, hr⟩ : ∃ r, r = rightW bs ns ps root gen := ⟨_, rfl⟩
  rw [← hr] at cR ⊢
  have hG : ∀ {r : Bool} {v : ByteArray} {e : Int}, (v, e) = (⟨#[]⟩, 1) → ¬ (r = true ∧ 1 ≤ key.size ∧ key.size ≤ 32) → GetC r key (treeS ns ps root gen) v e := by
    intro r v e h1 h2
    obtain ⟨rfl, rfl⟩ := Prod.mk.inj h1
    unfold GetC
    rw [if_neg h2]
    exact ⟨rfl, rfl⟩
  have HG : Hid (∀ {r : Bool} {v : ByteArray} {e : Int}, (v, e) = (⟨#[]⟩, 1) → ¬ (r = true ∧ 1 ≤ key.size ∧ key.size ≤ 32) → GetC r key (treeS ns ps root gen) v e) := hG
  cases r with
  | false =>
    clear hn hn' hp hB hB' hP hr hG
    go_enter Try.func15, Try.ntmps15
    go_wp2_with (
      (go_at_call 12; rw [← hW]; refine cR.mono ?_; rintro y w1 ⟨rfl, hb⟩; replace HB := Below.tr HB hb; replace BW := BW.below hb; clear x0 x1 x2 x3 x4; obtain ⟨x0, x1, x2, x3, x4⟩ := id BW; clear hb))
    go_ret2
    exact ⟨_, _, rfl, HG.out rfl (fun h => by cases h.1), HB⟩
  | true =>
    by_cases hk0 : key.size = 0
    · obtain rfl := str_empty hk0
      clear hn hn' hp hB hB' hP hr hG
      go_enter Try.func15, Try.ntmps15
      go_wp2_with (
        (go_at_call 12; rw [← hW]; refine cR.mono ?_; rintro y w1 ⟨rfl, hb⟩; replace HB := Below.tr HB hb; replace BW := BW.below hb; clear x0 x1 x2 x3 x4; obtain ⟨x0, x1, x2, x3, x4⟩ := id BW; clear hb))
      go_ret2
      exact ⟨_, _, rfl, HG.out rfl (fun h => by have := h.2.1; omega), HB⟩
    · have hke := str_full hk0
      by_cases hk2 : key.size ≤ 32
      · have hk2' : ¬ (32 : Int) < key.size := by omega
        by_cases hroot : root = 0
        · have hroot' : (root == 0) = true := by simpa using hroot
          have HF : Hid (GetC true key (treeS ns ps root gen) ⟨#[]⟩ 80) := by
            show GetC _ _ _ _ _
            unfold GetC treeS
            rw [if_pos ⟨rfl, by omega, hk2⟩, if_pos hroot]
            rfl
          clear hn hn' hp hB hB' hP hr hG hk0 hroot
          go_enter Try.func15, Try.ntmps15
          go_wp2_with (
            (go_at_call 12; rw [← hW]; refine cR.mono ?_; rintro y w1 ⟨rfl, hb⟩; replace HB := Below.tr HB hb; replace BW := BW.below hb; clear x0 x1 x2 x3 x4; obtain ⟨x0, x1, x2, x3, x4⟩ := id BW; clear hb))
          go_ret2
          exact ⟨_, _, rfl, HF.out, HB⟩
        · have hroot' : (root == 0) = false := by simpa using hroot
          have hpn : p = n' := by rw [hp, hn']; exact rightW_len hr.symm
          have HF : Hid (GetC true key (treeS ns ps root gen) (findS (holdsS ns ps gen) key 8 root ⟨#[]⟩ ⟨#[]⟩).1 (findS (holdsS ns ps gen) key 8 root ⟨#[]⟩ ⟨#[]⟩).2) := getC_find key hroot (by omega) hk2
          have cF : ∀ (h : Nat) U, Below w.heap.size w U → w.heap.size ≤ h → WalkBox U h (.slice a n c) (.slice a' n' c') (.slice b p f) (.int .i64 root) (.int .i64 gen) 0 → Calls Try.prog 31 #[.pointer (some ⟨h, 0, none⟩), .string key] U fun x V' => x = .returned (.tuple #[.string (findS (holdsS ns ps gen) key 8 root ⟨#[]⟩ ⟨#[]⟩).1, .int .i64 (findS (holdsS ns ps gen) key 8 root ⟨#[]⟩ ⟨#[]⟩).2]) ∧ Below w.heap.size w V' := fun h U hU hh hb => find_any w U h a a' b n c n' c' p f ns ps root gen key hn' hp hpn hU hh hB' hP hb
          obtain ⟨⟨v, e⟩, hve⟩ : ∃ x, x = findS (holdsS ns ps gen) key 8 root ⟨#[]⟩ ⟨#[]⟩ := ⟨_, rfl⟩
          rw [← hve] at HF cF
          clear hn hn' hp hB hB' hP hr hG hk0 hroot hpn hve
          go_enter Try.func15, Try.ntmps15
          go_wp2_with (first
            | (go_at_call 12; rw [← hW]; refine cR.mono ?_; rintro y w1 ⟨rfl, hb⟩; replace HB := Below.tr HB hb; replace BW := BW.below hb; clear x0 x1 x2 x3 x4; obtain ⟨x0, x1, x2, x3, x4⟩ := id BW; clear hb)
            | (go_at_call 31; have hA : Below w1.heap.size w1 (w1.alloc (.cells #[.slice a n c, .slice a' n' c', .slice b p f, .int .i64 root, .int .i64 gen, .int .i64 0] 61)) := (Below.refl _ _).alloc (Nat.le_refl _) _; have BK := walkBox_new w1 (.slice a n c) (.slice a' n' c') (.slice b p f) (.int .i64 root) (.int .i64 gen) 0 61 rfl; refine (cF _ _ (Below.tr HB hA) HB.size BK).mono ?_; rintro y w2 ⟨rfl, hb⟩; clear x0 x1 x2 x3 x4 HB hA BK BW))
          go_ret2
          exact ⟨_, _, rfl, HF.out, hb⟩
      · have hk2' : (32 : Int) < key.size := by omega
        clear hn hn' hp hB hB' hP hr hG hk0
        go_enter Try.func15, Try.ntmps15
        go_wp2_with (
          (go_at_call 12; rw [← hW]; refine cR.mono ?_; rintro y w1 ⟨rfl, hb⟩; replace HB := Below.tr HB hb; replace BW := BW.below hb; clear x0 x1 x2 x3 x4; obtain ⟨x0, x1, x2, x3, x4⟩ := id BW; clear hb))
        go_ret2
        exact ⟨_, _, rfl, HG.out rfl (fun h => by have := h.2.2; omega), HB⟩

end Go.Proofs.Ytmldemgciidpbaa

namespace Go.Proofs.Ytmldemgciidpbaa
open Go.RowKit Plain
set_option linter.unusedVariables false

/-- One place more at the end of a row of the call's own. -/
theorem push_T (W : World) (base : Nat) (v : Value) (n : Nat) (l : List Bool) (x : Bool) (hown : W.ownsRow base 4 1 v n (l.map Value.bool)) (hb : base ≤ W.heap.size) (hn : n ≤ 4096) :
    ∃ g cap w', (Builtin.append_ #[22, 22] 22 #[v, .slice (some ⟨W.heap.size, 0, none⟩) 1 1]).run Try.prog (W.alloc (.cells #[.bool x] 4)) = .ok (.slice (some ⟨g, 0, none⟩) (n + 1) cap) w' ∧
      w'.ownsRow base 4 1 (.slice (some ⟨g, 0, none⟩) (n + 1) cap) (n + 1) ((l ++ [x]).map Value.bool) ∧ (W.alloc (.cells #[.bool x] 4)).grownBy w' v.ownBlock ∧ (v.ownBlock = some g ∨ g = W.heap.size + 1) ∧ base ≤ g := by
  obtain ⟨i0, hi, hz0, hz1, hz2⟩ := info_parts Try.info4
  obtain ⟨g, cap, w', h1, h2, h3, h4, h5⟩ := run_append_lies (P := Try.prog) (W.alloc (.cells #[.bool x] 4)) 22 22 base 4 i0 _ 1 1 Try.underlying22 hi hz0 hz1 hz2 rfl (by decide) v n (l.map Value.bool) (hown.alloc _) ⟨W.heap.size, 0, none⟩ 1 1 [.bool x] rfl
    (by
      intro j u hj
      match j, hj with
      | 0, hj => simp at hj; subst hj; rw [at_add]; exact World.cell?_alloc_at _ _ _ _ rfl)
    (by intro u hu; simp at hu; subst hu; rfl) (by omega) (by unfold maxLen; omega) (by omega) (by simp; omega) (W.heap.size + 1) (by simp)
  refine ⟨g, cap, w', h1, by rw [List.map_append]; exact h2, h3, h4, ?_⟩
  obtain ⟨g', cap', he, hb', _⟩ := h2.form (by omega)
  cases he
  exact hb'

theorem own_span {w : World} {base : Nat} {e : TypeId} {s n : Nat} {v : Value} {xs : List Value} (h : w.ownsRow base e s v n xs) {g : Nat} (hg : v.ownBlock = some g) : base ≤ g ∧ g < w.heap.size := h.lt g hg

/-- What a push keeps of an elder box. -/
theorem Box2.grown {w w' : World} {row : Option Nat} {h : Nat} {v0 v1 : Value} (b : Box2 w h v0 v1) (hg : w.grownBy w' row) (hr : ∀ k, row = some k → h < k) : Box2 w' h v0 v1 := by
  have hl := b.lt
  have hb : w'.heap[h]? = w.heap[h]? := hg.block h hl (fun he => by have := hr h he.symm; omega)
  obtain ⟨⟨c0, c1⟩, f0, f1⟩ := b
  exact ⟨⟨by rw [World.cell?_of_block (w := w) hb]; exact c0, by rw [World.cell?_of_block (w := w) hb]; exact c1⟩, by rw [World.frozen?_of_block (w := w) hb]; exact f0, by rw [World.frozen?_of_block (w := w) hb]; exact f1⟩

theorem Box2.set0 {w : World} {h : Nat} {v0 v1 : Value} (b : Box2 w h v0 v1) (u : Value) : Box2 (w.setCell ⟨h, 0, none⟩ u) h u v1 := by
  obtain ⟨⟨c0, c1⟩, f0, f1⟩ := b
  refine ⟨⟨World.cell?_setCell_same _ _ _ c0, ?_⟩, by simpa using f0, by simpa using f1⟩
  rw [World.cell?_setCell_other _ _ _ _ (fun hh => by cases hh)]; exact c1

theorem Box2.set1 {w : World} {h : Nat} {v0 v1 : Value} (b : Box2 w h v0 v1) (u : Value) : Box2 (w.setCell ⟨h, 1, none⟩ u) h v0 u := by
  obtain ⟨⟨c0, c1⟩, f0, f1⟩ := b
  refine ⟨⟨?_, World.cell?_setCell_same _ _ _ c1⟩, by simpa using f0, by simpa using f1⟩
  rw [World.cell?_setCell_other _ _ _ _ (fun hh => by cases hh)]; exact c0

theorem own_below {w : World} {B : Nat} {e : TypeId} {n h i m : Nat} {v : Value} {xs : List Value} {u : Value} (hr : w.ownsRow B e m v n xs) (hh : h < B) : (w.setCell ⟨h, i, none⟩ u).ownsRow B e m v n xs :=
  ownsRow_setCell_below hr (a := ⟨h, i, none⟩) hh u

theorem ownT_of {w : World} {base : Nat} {v : Value} {n : Nat} {l : List Bool} (hl : l.length = n) (h : w.ownsRow base 4 1 v n (l.map Value.bool)) : ∃ a c, v = .slice a n c ∧ OwnT base w a c l := by
  subst hl
  rcases ownsRow_T h with ⟨rfl, rfl⟩ | ⟨g, cap, rfl, hg, hr⟩
  · exact ⟨none, 0, rfl, OwnT_nil _ _⟩
  · exact ⟨_, _, rfl, .inr ⟨g, rfl, hg, hr⟩⟩

set_option maxRecDepth 20000 in
set_option maxHeartbeats 4000000 in
/-- The document's own NEW, of numbers that are not too great. -/
theorem allocRefNew_any (n : Nat) (w : World) (hn : n ≤ 2048) :
    Calls Try.prog 21 #[.int .i64 n] w fun e w' => ∃ a1 c1 a2 c2, e = .returned (.agg #[.slice a1 n c1, .slice a2 n c2]) ∧ IsB w' a1 c1 (freshL n) ∧ IsB w' a2 c2 (freshL n) ∧ Below w.heap.size w w' := by
  obtain ⟨W, hW⟩ : ∃ W, W = (w.alloc (.cells #[.slice none 0 0, .slice none 0 0] 24)).alloc (.cells #[.slice none 0 0, .slice none 0 0] 24) := ⟨_, rfl⟩
  obtain ⟨hB0, hWs, bo, bi⟩ := two_box2 hW
  go_enter Try.func21, Try.ntmps21
  go_wp2
  rw [← hW]
  go_loopw [4] (fun v wr => ∃ (j : Nat) (v0 v1 : Value), j ≤ n ∧ v = .int .i64 j ∧ Box2 wr w.heap.size (.slice none 0 0) (.slice none 0 0) ∧ Box2 wr (w.heap.size + 1) v0 v1 ∧ wr.ownsRow (w.heap.size + 2) 4 1 v0 j ((freshL j).map Value.bool) ∧ wr.ownsRow (w.heap.size + 2) 4 1 v1 j ((freshL j).map Value.bool) ∧ (∀ g, v0.ownBlock = some g → v1.ownBlock ≠ some g) ∧ Below w.heap.size w wr ∧ w.heap.size + 2 ≤ wr.heap.size) (fun v _ => n - (intOf v).toNat)
  case atStart =>
    refine ⟨0, .slice none 0 0, .slice none 0 0, by omega, rfl, bo, bi, ⟨rfl, .inl ⟨rfl, rfl⟩⟩, ⟨rfl, .inl ⟨rfl, rfl⟩⟩, fun g hg => (by simp [Value.ownBlock] at hg), hB0, by omega⟩
  case round =>
    obtain ⟨j, v0, v1, hj, rfl, box, bix, hr0, hr1, hap, hbel, hsz⟩ := hrel
    by_cases hlt : j < n
    · have hlt' : (j : Int) < n := by omega
      obtain ⟨x, hx⟩ : ∃ x, x = decide ((j : Int) < 10) := ⟨_, rfl⟩
      have hnx : freshL (j + 1) = freshL j ++ [x] := by rw [freshL_succ, hx]; congr 2; rw [decide_eq_decide]; omega
      obtain ⟨g0, cap0, w1, run0, own0, gr0, at0, ge0⟩ := push_T wr (w.heap.size + 2) v0 j (freshL j) x hr0 hsz (by omega)
      have hrow0 : ∀ k, v0.ownBlock = some k → w.heap.size + 1 < k := fun k hk => by have := (own_span hr0 hk).1; omega
      have box1 : Box2 w1 w.heap.size (.slice none 0 0) (.slice none 0 0) := (box.alloc _).grown gr0 (fun k hk => by have := hrow0 k hk; omega)
      have bix1 : Box2 w1 (w.heap.size + 1) v0 v1 := (bix.alloc _).grown gr0 hrow0
      have hr1' : w1.ownsRow (w.heap.size + 2) 4 1 v1 j ((freshL j).map Value.bool) := (hr1.alloc _).kept gr0 (by
        cases h : v1.ownBlock with
        | none => exact .inl rfl
        | some k => exact .inr (fun he => hap k he.symm h))
      have hap1 : ∀ k, v1.ownBlock = some k → k ≠ g0 := by
        intro k hk he
        subst he
        rcases at0 with h | h
        · exact hap k h hk
        · have := (own_span hr1 hk).2; omega
      have hb1 : Below w.heap.size w w1 := (hbel.alloc (by omega) _).grown gr0 (by simp; omega) (fun k hk => by have := hrow0 k hk; omega)
      have hsz1 : w.heap.size + 2 ≤ w1.heap.size := by have := (own_span own0 rfl).2; have := gr0.size; simp at this; omega
      obtain ⟨W2, hW2⟩ : ∃ W2, W2 = w1.setCell ⟨w.heap.size + 1, 0, none⟩ (.slice (some ⟨g0, 0, none⟩) (j + 1) cap0) := ⟨_, rfl⟩
      have own0' : W2.ownsRow (w.heap.size + 2) 4 1 (.slice (some ⟨g0, 0, none⟩) (j + 1) cap0) (j + 1) ((freshL j ++ [x]).map Value.bool) := by rw [hW2]; exact own_below own0 (by omega)
      have hr1'' : W2.ownsRow (w.heap.size + 2) 4 1 v1 j ((freshL j).map Value.bool) := by rw [hW2]; exact own_below hr1' (by omega)
      have box2 : Box2 W2 w.heap.size (.slice none 0 0) (.slice none 0 0) := by
        rw [hW2]
        refine ⟨⟨?_, ?_⟩, by simpa using box1.2.1, by simpa using box1.2.2⟩
        · rw [World.cell?_setCell_other _ _ _ _ (fun hh => absurd (congrArg Addr.block hh) (by simp))]; exact box1.1.1
        · rw [World.cell?_setCell_other _ _ _ _ (fun hh => absurd (congrArg Addr.block hh) (by simp))]; exact box1.1.2
      have bix2 : Box2 W2 (w.heap.size + 1) (.slice (some ⟨g0, 0, none⟩) (j + 1) cap0) v1 := by rw [hW2]; exact bix1.set0 _
      have hb2 : Below w.heap.size w W2 := by rw [hW2]; exact hb1.setCell (p := ⟨w.heap.size + 1, 0, none⟩) (Nat.le_succ _) _
      have hsz2 : w.heap.size + 2 ≤ W2.heap.size := by rw [hW2]; simpa using hsz1
      have g0lt : g0 < W2.heap.size := (own_span own0' rfl).2
      obtain ⟨g1, cap1, w3, run1, own1, gr1, at1, ge1⟩ := push_T W2 (w.heap.size + 2) v1 j (freshL j) x hr1'' hsz2 (by omega)
      have hrow1 : ∀ k, v1.ownBlock = some k → w.heap.size + 1 < k := fun k hk => by have := (own_span hr1'' hk).1; omega
      have box3 : Box2 w3 w.heap.size (.slice none 0 0) (.slice none 0 0) := (box2.alloc _).grown gr1 (fun k hk => by have := hrow1 k hk; omega)
      have bix3 : Box2 w3 (w.heap.size + 1) (.slice (some ⟨g0, 0, none⟩) (j + 1) cap0) v1 := (bix2.alloc _).grown gr1 hrow1
      have own0'' : w3.ownsRow (w.heap.size + 2) 4 1 (.slice (some ⟨g0, 0, none⟩) (j + 1) cap0) (j + 1) ((freshL j ++ [x]).map Value.bool) := (own0'.alloc _).kept gr1 (.inr (fun he => hap1 g0 he.symm rfl))
      have hne : g0 ≠ g1 := by
        intro he
        rcases at1 with h | h
        · exact hap1 g1 h he.symm
        · omega
      have hb3 : Below w.heap.size w w3 := (hb2.alloc (by omega) _).grown gr1 (by simp; omega) (fun k hk => by have := hrow1 k hk; omega)
      have hsz3 : w.heap.size + 2 ≤ w3.heap.size := by have := gr1.size; simp at this; omega
      obtain ⟨⟨q0, q1⟩, f0, f1⟩ := bix
      have HF : Hid (∃ (v0 v1 : Value), Box2 (w3.setCell ⟨w.heap.size + 1, 1, none⟩ (.slice (some ⟨g1, 0, none⟩) (j + 1) cap1)) w.heap.size (.slice none 0 0) (.slice none 0 0) ∧ Box2 (w3.setCell ⟨w.heap.size + 1, 1, none⟩ (.slice (some ⟨g1, 0, none⟩) (j + 1) cap1)) (w.heap.size + 1) v0 v1 ∧ (w3.setCell ⟨w.heap.size + 1, 1, none⟩ (.slice (some ⟨g1, 0, none⟩) (j + 1) cap1)).ownsRow (w.heap.size + 2) 4 1 v0 (j + 1) ((freshL (j + 1)).map Value.bool) ∧ (w3.setCell ⟨w.heap.size + 1, 1, none⟩ (.slice (some ⟨g1, 0, none⟩) (j + 1) cap1)).ownsRow (w.heap.size + 2) 4 1 v1 (j + 1) ((freshL (j + 1)).map Value.bool) ∧ (∀ g, v0.ownBlock = some g → v1.ownBlock ≠ some g) ∧ Below w.heap.size w (w3.setCell ⟨w.heap.size + 1, 1, none⟩ (.slice (some ⟨g1, 0, none⟩) (j + 1) cap1)) ∧ w.heap.size + 2 ≤ (w3.setCell ⟨w.heap.size + 1, 1, none⟩ (.slice (some ⟨g1, 0, none⟩) (j + 1) cap1)).heap.size) := by
        refine ⟨.slice (some ⟨g0, 0, none⟩) (j + 1) cap0, .slice (some ⟨g1, 0, none⟩) (j + 1) cap1, ?_, bix3.set1 _, by rw [hnx]; exact own_below own0'' (by omega), by rw [hnx]; exact own_below own1 (by omega), ?_, hb3.setCell (p := ⟨w.heap.size + 1, 1, none⟩) (Nat.le_succ _) _, by simpa using hsz3⟩
        · refine ⟨⟨?_, ?_⟩, by simpa using box3.2.1, by simpa using box3.2.2⟩
          · rw [World.cell?_setCell_other _ _ _ _ (fun hh => absurd (congrArg Addr.block hh) (by simp))]; exact box3.1.1
          · rw [World.cell?_setCell_other _ _ _ _ (fun hh => absurd (congrArg Addr.block hh) (by simp))]; exact box3.1.2
        · intro g h1 h2
          simp [Value.ownBlock] at h1 h2
          omega
      obtain ⟨⟨k0, k1⟩, k2, k3⟩ := bix1
      obtain ⟨⟨s0, s1⟩, s2, s3⟩ := bix3
      have hs2 : W2.heap.size = w1.heap.size := by rw [hW2]; simp
      rw [hs2, hW2] at run1
      have t1 : True := trivial
      clear hr0 hr1 hap hbel hsz own0 gr0 at0 box1 hr1' hap1 hb1 hsz1 own0' hr1'' box2 bix2 hb2 hsz2 g0lt own1 gr1 at1 box3 own0'' hb3 hsz3 hrow0 hrow1 hnx hW2 hs2 box ge0 ge1 hne
      by_cases h10 : (j : Int) < 10
      · obtain rfl : x = true := by rw [hx]; simp [h10]
        clear hx
        go_wp2_with (first
          | (at_builtin; have _t := t1; refine Lib.wpList_append_run _ rfl _ _ _ _ rfl _ _ rfl rfl _ _ run0 ?_; clear t1)
          | (at_builtin; refine Lib.wpList_append_run _ rfl _ _ _ _ rfl _ _ rfl rfl _ _ run1 ?_))
        go_roundw
        case rel =>
          obtain ⟨u0, u1, hh⟩ := HF.out
          exact ⟨j + 1, u0, u1, by omega, by go_num, hh⟩
        case measure => simp [intOf]; omega
      · obtain rfl : x = false := by rw [hx]; simp [h10]
        clear hx
        go_wp2_with (first
          | (at_builtin; have _t := t1; refine Lib.wpList_append_run _ rfl _ _ _ _ rfl _ _ rfl rfl _ _ run0 ?_; clear t1)
          | (at_builtin; refine Lib.wpList_append_run _ rfl _ _ _ _ rfl _ _ rfl rfl _ _ run1 ?_))
        go_roundw
        case rel =>
          obtain ⟨u0, u1, hh⟩ := HF.out
          exact ⟨j + 1, u0, u1, by omega, by go_num, hh⟩
        case measure => simp [intOf]; omega
    · obtain rfl : j = n := by omega
      obtain ⟨a1, c1, rfl, O1⟩ := ownT_of (freshL_length j) hr0
      obtain ⟨a2, c2, rfl, O2⟩ := ownT_of (freshL_length j) hr1
      obtain ⟨⟨q0, q1⟩, -, -⟩ := bix
      obtain ⟨⟨r0, r1⟩, f0, f1⟩ := box
      have H1 : Hid (OwnT (w.heap.size + 2) wr a1 c1 (freshL j)) := O1
      have H2 : Hid (OwnT (w.heap.size + 2) wr a2 c2 (freshL j)) := O2
      clear hr0 hr1 hap O1 O2
      go_wp2
      refine bodyPost_ret (v := .agg #[.slice a1 j c1, .slice a2 j c2]) (by simp [results, Try.results21, go_sem, r0, r1]) rfl ⟨a1, c1, a2, c2, rfl, ?_, ?_, below_set2 hbel (Nat.le_refl _)⟩
      · exact ((H1.out.store (by omega) _ _).store (by omega) _ _).isB
      · exact ((H2.out.store (by omega) _ _).store (by omega) _ _).isB

end Go.Proofs.Ytmldemgciidpbaa

namespace Go.Proofs.Ytmldemgciidpbaa
open Go.RowKit Plain
set_option linter.unusedVariables false

theorem fresh_right : rightW (freshL 24) (freshL 24) (List.replicate 24 ⟨#[]⟩) 0 1 = true := by decide +kernel

theorem isS_made (W : World) (n g : Nat) (Z : Array Value) (hZ : Z = (List.replicate n (Value.string ⟨#[]⟩)).toArray) (hn : n ≤ maxLen) (hg : g = W.heap.size) : IsS (W.alloc (.cells Z 9)) (some ⟨g, 0, none⟩) n (List.replicate n ⟨#[]⟩) := by
  subst hg hZ
  refine ⟨by simp, hn, fun j x hx => ?_⟩
  obtain ⟨hj, hx'⟩ := List.getElem?_eq_some_iff.1 hx
  have hx2 : x = ⟨#[]⟩ := by rw [List.getElem_replicate] at hx'; exact hx'.symm
  subst hx2
  simp at hj
  have hc : (W.alloc (.cells (List.replicate n (Value.string ⟨#[]⟩)).toArray 9)).cell? ⟨W.heap.size, j, none⟩ = some (.string ⟨#[]⟩) := (World.cell?_alloc_at _ _ _ _ rfl).trans (show (List.replicate n (Value.string ⟨#[]⟩)).toArray[j]? = some (.string ⟨#[]⟩) by simp [hj])
  exact ⟨W.heap.size, 0, rfl, by simp, by rw [Nat.zero_add]; exact hc, Nat.zero_le _⟩


theorem getC_fresh {L : List Bool} {P : List ByteArray} {v : ByteArray} {e : Int} (fr : rightW L L P 0 1 = true) (h : GetC (rightW L L P 0 1) ⟨#[97]⟩ (treeS L P 0 1) v e) : (v, e) = (⟨#[]⟩, 80) := by
  rw [fr] at h
  unfold GetC at h
  rw [if_pos ⟨rfl, by decide, by decide⟩] at h
  exact h

set_option maxRecDepth 20000 in
set_option maxHeartbeats 2000000 in
theorem alive08_any (w : World) : Calls Try.prog 9 #[] w fun e w' => e = .returned (.bool true) ∧ Below w.heap.size w w' := by
  have cN := allocRefNew_any 24 w (by decide)
  have k1 : (⟨#[97]⟩ : ByteArray).size ≤ maxLen := by decide
  have fr := fresh_right
  obtain ⟨P, hP⟩ : ∃ P, P = List.replicate 24 (⟨#[]⟩ : ByteArray) := ⟨_, rfl⟩
  obtain ⟨L, hL⟩ : ∃ L, L = freshL 24 := ⟨_, rfl⟩
  have l1 : Hid (24 = L.length) := by show _ = _; rw [hL]; decide
  have l2 : Hid (24 = P.length) := by show _ = _; rw [hP]; rfl
  rw [← hL, ← hP] at fr
  have HP : Hid (P = List.replicate 24 (⟨#[]⟩ : ByteArray)) := hP
  rw [← hL] at cN
  clear hL hP
  obtain ⟨Z, hmk, hZ⟩ : ∃ Z : Array Value, (∀ W : World, (Instr.makeSlice 25 (.int .i64 24) (.int .i64 24)).run Try.prog W = .ok (.slice (some ⟨W.heap.size, 0, none⟩) 24 24) (W.alloc (.cells Z 9))) ∧ Hid (Z = (List.replicate 24 (Value.string ⟨#[]⟩)).toArray) :=
    ⟨madeCells #[.string ⟨#[]⟩] 24, fun W => run_make_row' (P := Try.prog) 25 9 (.string ⟨#[]⟩) 16 Try.underlying25 Try.info9 rfl .i64 .i64 24 (by omega) (by omega) W, made_one _ 24⟩
  go_enter Try.func9, Try.ntmps9
  go_wp2_with (go_at_call 21; refine cN.mono ?_; rintro y w1 ⟨a1, c1, a2, c2, rfl, i1, i2, HB⟩)
  go_region
  · have IP := HP.out ▸ ((isS_made (w1.alloc (.cells #[.slice a1 24 c1, .slice a2 24 c2] 24)) 24 (w1.heap.size + 1) Z hZ.out (by decide) (by simp)).below ((Below.refl _ _).alloc (Nat.le_refl _) (.cells #[.slice a1 24 c1, .slice a2 24 c2, .slice (some ⟨w1.heap.size + 1, 0, none⟩) 24 24, .int .i64 0, .int .i64 1] 27))).below (Below.refl _ _).drew
    have BW := (woodBox_new ((w1.alloc (.cells #[.slice a1 24 c1, .slice a2 24 c2] 24)).alloc (.cells Z 9)) (.slice a1 24 c1) (.slice a2 24 c2) (.slice (some ⟨w1.heap.size + 1, 0, none⟩) 24 24) (.int .i64 0) (.int .i64 1) 27 (h := w1.heap.size + 1 + 1) (by simp)).below (Below.refl _ _).drew
    have HU : Below w1.heap.size w1 (((w1.alloc (.cells #[.slice a1 24 c1, .slice a2 24 c2] 24)).alloc (.cells Z 9)).alloc (.cells #[.slice a1 24 c1, .slice a2 24 c2, .slice (some ⟨w1.heap.size + 1, 0, none⟩) 24 24, .int .i64 0, .int .i64 1] 27)).drew := ((((Below.refl _ _).alloc (Nat.le_refl _) _).alloc (by simp only [World.size_alloc]; omega) _).alloc (by simp only [World.size_alloc]; omega) _).drew
    generalize (((w1.alloc (.cells #[.slice a1 24 c1, .slice a2 24 c2] 24)).alloc (.cells Z 9)).alloc (.cells #[.slice a1 24 c1, .slice a2 24 c2, .slice (some ⟨w1.heap.size + 1, 0, none⟩) 24 24, .int .i64 0, .int .i64 1] 27)).drew = U at IP BW HU ⊢
    have cG : Calls Try.prog 15 #[.agg #[.slice a1 24 c1, .slice a2 24 c2, .slice (some ⟨w1.heap.size + 1, 0, none⟩) 24 24, .int .i64 0, .int .i64 1], .string ⟨#[97]⟩] U fun x w' => ∃ v e, x = .returned (.tuple #[.string v, .int .i64 e]) ∧ GetC (rightW L L P 0 1) ⟨#[97]⟩ (treeS L P 0 1) v e ∧ Below U.heap.size U w' := lookGet_any a1 a2 (some ⟨w1.heap.size + 1, 0, none⟩) 24 c1 24 c2 24 24 L L P 0 1 ⟨#[97]⟩ U l1.out l1.out l2.out (i1.below HU) (i2.below HU) IP k1
    have cR : ∀ V, Below U.heap.size U V → Calls Try.prog 12 #[.agg #[.slice a1 24 c1, .slice a2 24 c2, .slice (some ⟨w1.heap.size + 1, 0, none⟩) 24 24, .int .i64 0, .int .i64 1]] V fun x w' => x = .returned (.bool true) ∧ Below V.heap.size V w' := fun V hV => by
      have := lookRight_any a1 a2 (some ⟨w1.heap.size + 1, 0, none⟩) 24 c1 24 c2 24 24 L L P 0 1 V l1.out l1.out l2.out ((i1.below HU).below hV) ((i2.below HU).below hV) (IP.below hV)
      rw [fr] at this
      exact this
    replace HB := Below.tr HB HU
    obtain ⟨x0, x1, x2, x3, x4⟩ := id BW
    clear IP HU i1 i2 hZ hmk cN l1 l2 k1
    go_wp2_with (first
      | (go_at_call 15; refine cG.mono ?_; rintro y w2 ⟨v, e, rfl, hG, hb⟩; obtain ⟨rfl, rfl⟩ := Prod.mk.inj (getC_fresh fr hG); replace BW := BW.below hb; replace HB := Below.tr HB hb; clear x0 x1 x2 x3 x4; obtain ⟨x0, x1, x2, x3, x4⟩ := id BW)
      | (go_at_call 12; refine (cR _ hb).mono ?_; rintro y w3 ⟨rfl, hb2⟩; replace HB := Below.tr HB hb2))
    go_ret
    exact ⟨rfl, HB⟩
  · have IP := HP.out ▸ (isS_made ((w1.alloc (.cells #[.slice a1 24 c1, .slice a2 24 c2] 24)).alloc (.cells #[.slice a1 24 c1, .slice a2 24 c2, .slice (some ⟨w1.heap.size + 1 + 1, 0, none⟩) 24 24, .int .i64 0, .int .i64 1] 27)) 24 (w1.heap.size + 1 + 1) Z hZ.out (by decide) (by simp)).below (Below.refl _ _).drew
    have BW := ((woodBox_new (w1.alloc (.cells #[.slice a1 24 c1, .slice a2 24 c2] 24)) (.slice a1 24 c1) (.slice a2 24 c2) (.slice (some ⟨w1.heap.size + 1 + 1, 0, none⟩) 24 24) (.int .i64 0) (.int .i64 1) 27 (h := w1.heap.size + 1) (by simp)).below ((Below.refl _ _).alloc (Nat.le_refl _) (.cells Z 9))).below (Below.refl _ _).drew
    have HU : Below w1.heap.size w1 (((w1.alloc (.cells #[.slice a1 24 c1, .slice a2 24 c2] 24)).alloc (.cells #[.slice a1 24 c1, .slice a2 24 c2, .slice (some ⟨w1.heap.size + 1 + 1, 0, none⟩) 24 24, .int .i64 0, .int .i64 1] 27)).alloc (.cells Z 9)).drew := ((((Below.refl _ _).alloc (Nat.le_refl _) _).alloc (by simp only [World.size_alloc]; omega) _).alloc (by simp only [World.size_alloc]; omega) _).drew
    generalize (((w1.alloc (.cells #[.slice a1 24 c1, .slice a2 24 c2] 24)).alloc (.cells #[.slice a1 24 c1, .slice a2 24 c2, .slice (some ⟨w1.heap.size + 1 + 1, 0, none⟩) 24 24, .int .i64 0, .int .i64 1] 27)).alloc (.cells Z 9)).drew = U at IP BW HU ⊢
    have cG : Calls Try.prog 15 #[.agg #[.slice a1 24 c1, .slice a2 24 c2, .slice (some ⟨w1.heap.size + 1 + 1, 0, none⟩) 24 24, .int .i64 0, .int .i64 1], .string ⟨#[97]⟩] U fun x w' => ∃ v e, x = .returned (.tuple #[.string v, .int .i64 e]) ∧ GetC (rightW L L P 0 1) ⟨#[97]⟩ (treeS L P 0 1) v e ∧ Below U.heap.size U w' := lookGet_any a1 a2 (some ⟨w1.heap.size + 1 + 1, 0, none⟩) 24 c1 24 c2 24 24 L L P 0 1 ⟨#[97]⟩ U l1.out l1.out l2.out (i1.below HU) (i2.below HU) IP k1
    have cR : ∀ V, Below U.heap.size U V → Calls Try.prog 12 #[.agg #[.slice a1 24 c1, .slice a2 24 c2, .slice (some ⟨w1.heap.size + 1 + 1, 0, none⟩) 24 24, .int .i64 0, .int .i64 1]] V fun x w' => x = .returned (.bool true) ∧ Below V.heap.size V w' := fun V hV => by
      have := lookRight_any a1 a2 (some ⟨w1.heap.size + 1 + 1, 0, none⟩) 24 c1 24 c2 24 24 L L P 0 1 V l1.out l1.out l2.out ((i1.below HU).below hV) ((i2.below HU).below hV) (IP.below hV)
      rw [fr] at this
      exact this
    replace HB := Below.tr HB HU
    obtain ⟨x0, x1, x2, x3, x4⟩ := id BW
    clear IP HU i1 i2 hZ hmk cN l1 l2 k1
    go_wp2_with (first
      | (go_at_call 15; refine cG.mono ?_; rintro y w2 ⟨v, e, rfl, hG, hb⟩; obtain ⟨rfl, rfl⟩ := Prod.mk.inj (getC_fresh fr hG); replace BW := BW.below hb; replace HB := Below.tr HB hb; clear x0 x1 x2 x3 x4; obtain ⟨x0, x1, x2, x3, x4⟩ := id BW)
      | (go_at_call 12; refine (cR _ hb).mono ?_; rintro y w3 ⟨rfl, hb2⟩; replace HB := Below.tr HB hb2))
    go_ret
    exact ⟨rfl, HB⟩

end Go.Proofs.Ytmldemgciidpbaa

namespace Go.Proofs.Ytmldemgciidpbaa
open Go.RowKit Plain
set_option linter.unusedVariables false

abbrev nilV : Value := .slice none 0 0

theorem own_nil {g : Nat} (h : nilV.ownBlock = some g) : False := by simp [Value.ownBlock] at h

structure ScanAt (V : World) (h B : Nat) (v0 v1 v2 v3 v4 : Value) (lo : ByteArray) (m : Nat) (u : Value) (s : ScanS) : Prop where
  wb : WalkBox V h v0 v1 v2 v3 v4 s.lv
  c6 : V.cell? ⟨h, 6, none⟩ = some (.string lo)
  c7 : V.cell? ⟨h, 7, none⟩ = some (.int .i64 m)
  c8 : V.cell? ⟨h, 8, none⟩ = some u
  c9 : V.cell? ⟨h, 9, none⟩ = some (.string s.next)
  f8 : V.frozen? ⟨h, 8, none⟩ = false
  f9 : V.frozen? ⟨h, 9, none⟩ = false
  row : V.ownsRow B 55 2 u s.pairs.length (cellsQ s.pairs)
  hb : h < B
  le : B ≤ V.heap.size

theorem ScanAt.off {V : World} {h B : Nat} {v0 v1 v2 v3 v4 : Value} {lo : ByteArray} {m : Nat} {u : Value} {s : ScanS} (n : ScanAt V h B v0 v1 v2 v3 v4 lo m u s) : Off h u := fun g hg e => by have := (n.row.lt g hg).1; have := n.hb; omega

theorem ScanAt.below {V V' : World} {h B : Nat} {v0 v1 v2 v3 v4 : Value} {lo : ByteArray} {m : Nat} {u : Value} {s : ScanS} (n : ScanAt V h B v0 v1 v2 v3 v4 lo m u s) (hb : Below V.heap.size V V') : ScanAt V' h B v0 v1 v2 v3 v4 lo m u s := by
  have T : Turns (fun _ => False) V V' := Turns.of_below hb
  exact ⟨n.wb.below hb, cell_below hb n.c6, cell_below hb n.c7, cell_below hb n.c8, cell_below hb n.c9, by rw [hb.frozen (p := ⟨h, 8, none⟩) (cell_lt n.c8)]; exact n.f8, by rw [hb.frozen (p := ⟨h, 9, none⟩) (cell_lt n.c9)]; exact n.f9, T.owns n.row (fun _ _ x => x), n.hb, Nat.le_trans n.le hb.size⟩

/-- A node is come to. -/
theorem ScanAt.visit {V V' : World} {h B : Nat} {v0 v1 v2 v3 v4 : Value} {lo : ByteArray} {m : Nat} {u : Value} {s : ScanS} (n : ScanAt V h B v0 v1 v2 v3 v4 lo m u s) {lv : Int} (t : Only5 h V V') (b : WalkBox V' h v0 v1 v2 v3 v4 lv) : ScanAt V' h B v0 v1 v2 v3 v4 lo m u ⟨s.pairs, s.next, lv⟩ :=
  ⟨b, t.c 6 _ (by decide) n.c6, t.c 7 _ (by decide) n.c7, t.c 8 _ (by decide) n.c8, t.c 9 _ (by decide) n.c9, t.f 8 _ n.c8 n.f8, t.f 9 _ n.c9 n.f9, t.t.owns n.row (fun g hg e => n.off g hg e), n.hb, Nat.le_trans n.le t.t.size⟩

theorem grows_only {h : Nat} (u : Value) {V V' : World} (t : Only5 h V V') : Grows h u nilV V u nilV V' := ⟨t.t.mono (fun k hk => .inl hk), fun _ => .inl, fun _ => .inl⟩

/-- The key behind. -/
theorem ScanAt.setNext {V : World} {h B : Nat} {v0 v1 v2 v3 v4 : Value} {lo : ByteArray} {m : Nat} {u : Value} {s : ScanS} (n : ScanAt V h B v0 v1 v2 v3 v4 lo m u s) (k : ByteArray) : ScanAt (V.setCell ⟨h, 9, none⟩ (.string k)) h B v0 v1 v2 v3 v4 lo m u ⟨s.pairs, k, s.lv⟩ ∧ Grows h u nilV V u nilV (V.setCell ⟨h, 9, none⟩ (.string k)) := by
  have hne : ∀ i, i ≠ 9 → (⟨h, i, none⟩ : Addr) ≠ ⟨h, 9, none⟩ := fun i hi e => by cases e; exact hi rfl
  have hc : ∀ i v, i ≠ 9 → V.cell? ⟨h, i, none⟩ = some v → (V.setCell ⟨h, 9, none⟩ (.string k)).cell? ⟨h, i, none⟩ = some v := fun i v hi hh => by rw [World.cell?_setCell_other _ _ _ _ (fun e => hi (by cases e; rfl))]; exact hh
  obtain ⟨⟨c0, c1, c2, c3, c4⟩, c5, f5⟩ := n.wb
  refine ⟨⟨⟨⟨hc 0 _ (by decide) c0, hc 1 _ (by decide) c1, hc 2 _ (by decide) c2, hc 3 _ (by decide) c3, hc 4 _ (by decide) c4⟩, hc 5 _ (by decide) c5, by rw [World.frozen?_setCell]; exact f5⟩, hc 6 _ (by decide) n.c6, hc 7 _ (by decide) n.c7, hc 8 _ (by decide) n.c8, World.cell?_setCell_same _ _ _ n.c9, by rw [World.frozen?_setCell]; exact n.f8, by rw [World.frozen?_setCell]; exact n.f9, owns_off n.row n.off 9 _, n.hb, by simpa using n.le⟩, ⟨Turns.setCell (Turns.refl _ _) (p := ⟨h, 9, none⟩) (.inl rfl) _, fun _ => .inl, fun _ => .inl⟩⟩

/-- One pair more. -/
theorem ScanAt.push {V : World} {h B : Nat} {v0 v1 v2 v3 v4 : Value} {lo : ByteArray} {m : Nat} {u : Value} {s : ScanS} (n : ScanAt V h B v0 v1 v2 v3 v4 lo m u s) (x y : ByteArray) (hl : s.pairs.length ≤ 1000000000000) :
    ∃ g cap w', (Builtin.append_ #[44, 44] 44 #[u, .slice (some ⟨V.heap.size, 0, none⟩) 1 1]).run Try.prog (V.alloc (.cells #[.string x, .string y] 55)) = .ok (.slice (some ⟨g, 0, none⟩) (s.pairs.length + 1) cap) w' ∧ (w'.cell? ⟨h, 8, none⟩ = some u ∧ w'.frozen? ⟨h, 8, none⟩ = false) ∧
      ScanAt (w'.setCell ⟨h, 8, none⟩ (.slice (some ⟨g, 0, none⟩) (s.pairs.length + 1) cap)) h B v0 v1 v2 v3 v4 lo m (.slice (some ⟨g, 0, none⟩) (s.pairs.length + 1) cap) ⟨s.pairs ++ [(x, y)], s.next, s.lv⟩ ∧
      Grows h u nilV V (.slice (some ⟨g, 0, none⟩) (s.pairs.length + 1) cap) nilV (w'.setCell ⟨h, 8, none⟩ (.slice (some ⟨g, 0, none⟩) (s.pairs.length + 1) cap)) := by
  obtain ⟨g, cap, w', hrun, hown, hgr, hat, hge, hlt⟩ := push_Q V B u s.pairs.length s.pairs (x, y) n.row n.le hl
  have t0 : Turns (fun k => u.ownBlock = some k) V w' := ((Turns.refl _ _).alloc _).grown hgr (fun k hk => hk)
  have hno : ¬ u.ownBlock = some h := fun hk => n.off h hk rfl
  have hlt' := cell_lt n.c8
  have hh : h < V.heap.size + 1 := by have : h < V.heap.size := hlt'; omega
  have ho := off_grown (n := s.pairs.length + 1) (cap := cap) n.off hat hh
  have hc0 : ∀ i v, V.cell? ⟨h, i, none⟩ = some v → w'.cell? ⟨h, i, none⟩ = some v := fun i v hc => t0.cell (p := ⟨h, i, none⟩) hno hc
  have hf0 : ∀ i v, V.cell? ⟨h, i, none⟩ = some v → V.frozen? ⟨h, i, none⟩ = false → w'.frozen? ⟨h, i, none⟩ = false := fun i v hc hf => t0.frozen (p := ⟨h, i, none⟩) (cell_lt hc) hno hf
  have hc : ∀ i v, i ≠ 8 → V.cell? ⟨h, i, none⟩ = some v → (w'.setCell ⟨h, 8, none⟩ (.slice (some ⟨g, 0, none⟩) (s.pairs.length + 1) cap)).cell? ⟨h, i, none⟩ = some v := fun i v hi hh => by rw [World.cell?_setCell_other _ _ _ _ (fun e => hi (by cases e; rfl))]; exact hc0 i v hh
  have hf : ∀ i v, V.cell? ⟨h, i, none⟩ = some v → V.frozen? ⟨h, i, none⟩ = false → (w'.setCell ⟨h, 8, none⟩ (.slice (some ⟨g, 0, none⟩) (s.pairs.length + 1) cap)).frozen? ⟨h, i, none⟩ = false := fun i v h1 h2 => by rw [World.frozen?_setCell]; exact hf0 i v h1 h2
  obtain ⟨⟨c0, c1, c2, c3, c4⟩, c5, f5⟩ := n.wb
  refine ⟨g, cap, w', hrun, ⟨hc0 8 _ n.c8, hf0 8 _ n.c8 n.f8⟩, ⟨⟨⟨hc 0 _ (by decide) c0, hc 1 _ (by decide) c1, hc 2 _ (by decide) c2, hc 3 _ (by decide) c3, hc 4 _ (by decide) c4⟩, hc 5 _ (by decide) c5, hf 5 _ c5 f5⟩, hc 6 _ (by decide) n.c6, hc 7 _ (by decide) n.c7, World.cell?_setCell_same _ _ _ (hc0 8 _ n.c8), hc 9 _ (by decide) n.c9, hf 8 _ n.c8 n.f8, hf 9 _ n.c9 n.f9, ?_, n.hb, ?_⟩, ⟨(t0.mono fun k hk => .inr (.inl hk)).setCell (p := ⟨h, 8, none⟩) (.inl rfl) _, fun k hk => ?_, fun _ => .inl⟩⟩
  · rw [List.length_append]
    exact owns_off hown ho 8 _
  · have := t0.size
    have := n.le
    simp; omega
  · simp [Value.ownBlock] at hk
    subst hk
    rcases hat with e | e
    · exact .inl e
    · exact .inr (by omega)

theorem ScanAt.sees {V : World} {h B : Nat} {v0 v1 v2 v3 v4 : Value} {lo : ByteArray} {m : Nat} {u : Value} {s : ScanS} (n : ScanAt V h B v0 v1 v2 v3 v4 lo m u s) : ∃ a c, u = .slice a s.pairs.length c := by
  rcases n.row.2 with ⟨h1, h2⟩ | ⟨g, cap, cur, h1, _⟩
  · exact ⟨none, 0, by rw [h1, h2]⟩
  · exact ⟨_, _, h1⟩

end Go.Proofs.Ytmldemgciidpbaa

namespace Go.Proofs.Ytmldemgciidpbaa
open Go.RowKit Plain Anylast
set_option linter.unusedVariables false

/-- What the operations of the line that takes a pair on yield. -/
def gathV (h hn b1 o1 b2 o2 j B g n cap : Nat) (u vk vv : Value) (x y : ByteArray) : Nat → Value
  | 0 => .pointer (some ⟨h, 0, none⟩)
  | 1 => .pointer (some ⟨h, 0, none⟩)
  | 2 => .pointer (some ⟨h, 0, none⟩)
  | 3 => .pointer (some ⟨h, 8, none⟩)
  | 4 => u
  | 5 => .pointer (some ⟨hn, 1, none⟩)
  | 6 => vk
  | 7 => .int .i64 j
  | 8 => .pointer (some ⟨b1, o1 + j, none⟩)
  | 9 => .string x
  | 10 => .pointer (some ⟨hn, 2, none⟩)
  | 11 => vv
  | 12 => .int .i64 j
  | 13 => .pointer (some ⟨b2, o2 + j, none⟩)
  | 14 => .string y
  | 15 => .agg #[.string x, .string y]
  | 16 => .slice (some ⟨B, 0, none⟩) 1 1
  | 17 => .slice (some ⟨g, 0, none⟩) n cap
  | 18 => .pointer (some ⟨h, 0, none⟩)
  | 19 => .pointer (some ⟨h, 8, none⟩)
  | _ => undef

theorem zip_drop {ks vs : List ByteArray} {j : Nat} {x y : ByteArray} (hx : ks[j]? = some x) (hy : vs[j]? = some y) : (ks.zip vs).drop j = (x, y) :: (ks.zip vs).drop (j + 1) := by
  have hz : (ks.zip vs)[j]? = some (x, y) := by rw [List.getElem?_zip_eq_some]; exact ⟨hx, hy⟩
  obtain ⟨hl, he⟩ := List.getElem?_eq_some_iff.1 hz
  rw [List.drop_eq_getElem_cons hl, he]

theorem cell8_unset {w : World} {h i : Nat} {v x : Value} {p : Addr} (hc : (w.setCell ⟨h, i, none⟩ v).cell? p = some x) (hn : ¬ p.block = h) : w.cell? p = some x := cell_unset hc hn

set_option maxRecDepth 20000 in
set_option maxHeartbeats 4000000 in
/-- GATHER, of a leaf. -/
theorem gather_any (V : World) (h B lb : Nat) (v0 v1 v2 v3 v4 : Value) (lo : ByteArray) (m : Nat) (u : Value) (s : ScanS) (a1 a2 a3 : Option Addr) (k1 d1 k2 d2 k3 d3 : Nat) (ks vs : List ByteArray) (cs : List Int)
    (D : ScanAt V h B v0 v1 v2 v3 v4 lo m u s) (hst : standsN true ks vs cs = true) (e1 : k1 = ks.length) (e2 : k2 = vs.length) (e3 : k3 = cs.length) (i1 : IsS V a1 d1 ks) (i2 : IsS V a2 d2 vs) (i3 : IsI V a3 d3 cs) (j1 : From lb a1) (j2 : From lb a2) (j3 : From lb a3) (hlb : h < lb) (hu : ∀ g, u.ownBlock = some g → g < lb) (hlV : lb ≤ V.heap.size) (hm : m ≤ 256) (hsm : s.pairs.length ≤ m) :
    Calls Try.prog 52 #[.pointer (some ⟨h, 0, none⟩), .agg #[.bool true, .slice a1 k1 d1, .slice a2 k2 d2, .slice a3 k3 d3]] V fun e V' => e = .returned (.tuple #[]) ∧ ∃ u', ScanAt V' h B v0 v1 v2 v3 v4 lo m u' ⟨(gatherP m s.pairs s.next ((ks.zip vs).drop (findN lo ks))).1, (gatherP m s.pairs s.next ((ks.zip vs).drop (findN lo ks))).2, s.lv⟩ ∧ Grows h u nilV V u' nilV V' := by
  obtain ⟨W, hW⟩ : ∃ W, W = V.alloc (.cells #[.bool true, .slice a1 k1 d1, .slice a2 k2 d2, .slice a3 k3 d3] 32) := ⟨_, rfl⟩
  have HW : Below V.heap.size V W := by rw [hW]; exact (Below.refl _ _).alloc (Nat.le_refl _) _
  have NH : NodeLo W lb V.heap.size true a1 k1 d1 a2 k2 d2 a3 k3 d3 ks vs cs := by rw [hW]; exact nodeLo_new V lb _ true rfl hlV e1 e2 e3 i1 i2 i3 j1 j2 j3
  replace D := D.below HW
  have G : Grows h u nilV V u nilV W := Grows.of_below h u nilV HW
  have LO : Loc lb W W u nilV := ⟨Turns.refl _ _, fun g hg => .inl (hg.elim (hu g) (fun e => (own_nil e).elim))⟩
  have hsh := (standsN_iff.1 hst).2.2.2.2.2
  have hlen : vs.length = ks.length := (shape_leaf.1 hsh).1
  obtain ⟨i, hi⟩ : ∃ i, i = findN lo ks := ⟨_, rfl⟩
  have hik : i ≤ ks.length := by rw [hi]; exact findN_le lo ks
  have eR : findR true ks vs cs lo = (i : Nat) := by unfold findR; rw [if_pos hst, hi]
  have cF : ∀ U, Below W.heap.size W U → Calls Try.prog 62 #[.agg #[.bool true, .slice a1 k1 d1, .slice a2 k2 d2, .slice a3 k3 d3], .string lo] U fun e w' => e = .returned (.tuple #[.int .i64 i, .bool (findI true ks vs cs lo)]) ∧ Below U.heap.size U w' := fun U hU => by
    have := nodeFind_any true a1 a2 a3 d1 d2 d3 k1 k2 k3 ks vs cs lo U e1 e2 e3 (NH.i1.below hU) (NH.i2.below hU) (NH.i3.below hU)
    rw [eR] at this
    exact this
  rw [← hi]
  obtain ⟨R, hR⟩ : ∃ R, R = gatherP m s.pairs s.next ((ks.zip vs).drop i) := ⟨_, rfl⟩
  rw [← hR]
  have mk1 : k1 ≤ 9223372036854775807 := by rw [e1]; exact Nat.le_trans i1.1 i1.2.1
  have mk2 : k2 ≤ 9223372036854775807 := by rw [e2]; exact Nat.le_trans i2.1 i2.2.1
  have E : Hid (k1 = ks.length ∧ k2 = vs.length ∧ vs.length = ks.length ∧ i ≤ ks.length ∧ m ≤ 256) := ⟨e1, e2, hlen, hik, hm⟩
  have HR : Hid (R = gatherP m s.pairs s.next ((ks.zip vs).drop i)) := hR
  have HSM : Hid (s.pairs.length ≤ m) := hsm
  have HLV : Hid (lb ≤ V.heap.size) := hlV
  have hNH : Hid (NodeLo W lb V.heap.size true a1 k1 d1 a2 k2 d2 a3 k3 d3 ks vs cs) := NH
  have BN := NH.box
  obtain ⟨⟨n0, n1, n2, n3⟩, -⟩ := id (hW ▸ BN)
  have q6 := D.c6
  rw [hW] at q6
  clear e1 e2 e3 i1 i2 i3 j1 j2 j3 hst hsh hlen hi hik eR hR hu hm hsm hlV
  go_enter Try.func52, Try.ntmps52
  go_wp2
  rw [← hW] at n0 n1 n2 n3 q6 ⊢
  clear hW
  have HX : Below W.heap.size W W.drew := (Below.refl _ _).drew
  replace BN := BN.below HX
  replace D := D.below HX
  go_region_held3 (fun X => X.cell? ⟨V.heap.size, 0, none⟩ = some (.bool true) ∧ X.cell? ⟨V.heap.size, 1, none⟩ = some (.slice a1 k1 d1) ∧ X.cell? ⟨V.heap.size, 2, none⟩ = some (.slice a2 k2 d2) ∧ X.cell? ⟨V.heap.size, 3, none⟩ = some (.slice a3 k3 d3) ∧ X.cell? ⟨h, 6, none⟩ = some (.string lo)) (exact ⟨BN.1.1, BN.1.2.1, BN.1.2.2.1, BN.1.2.2.2, D.c6⟩)
    (first
      | (go_at_call 62; refine (cF _ HX).mono ?_; rintro y w2 ⟨rfl, hb⟩; replace HX := Below.tr HX hb; replace BN := BN.below hb; replace D := D.below hb; clear hb))
  replace G := G.trans (Grows.of_below h u nilV HX)
  replace LO := LO.step (Grows.of_below h u nilV HX) hlb
  clear BN HX n0 n1 n2 n3 q6 NH cF HW
  go_wp2
  go_loopw [6] (fun v wr => ∃ (j : Nat) (u2 : Value) (s2 : ScanS), j ≤ k1 ∧ v = .int .i64 j ∧ (s2.pairs.length ≤ m ∧ s2.lv = s.lv ∧ gatherP m s2.pairs s2.next ((ks.zip vs).drop j) = R) ∧ ScanAt wr h B v0 v1 v2 v3 v4 lo m u2 s2 ∧ Grows h u nilV V u2 nilV wr ∧ Loc lb W wr u2 nilV) (fun v _ => k1 - (intOf v).toNat)
  case atStart => exact ⟨i, u, s, by have := E.out; omega, rfl, ⟨HSM.out, rfl, HR.out.symm⟩, D, G, LO⟩
  case round =>
    clear D G LO
    obtain ⟨j, u2, s2, hj, rfl, hs2, D, G, LO⟩ := hrel
    have HS2 : Hid (s2.pairs.length ≤ m ∧ s2.lv = s.lv ∧ gatherP m s2.pairs s2.next ((ks.zip vs).drop j) = R) := hs2
    clear hs2
    have NL := hNH.out.stay LO.st
    by_cases hlt : j < k1
    · have hlt' : (j : Int) < k1 := by omega
      have hlt2 : (j : Int) < k2 := by have := E.out; omega
      obtain ⟨x, hx⟩ : ∃ x, Hid (ks[j]? = some x) := get_some (by have := E.out; omega)
      obtain ⟨y, hy⟩ : ∃ x, Hid (vs[j]? = some x) := get_some (by have := E.out; omega)
      obtain ⟨b1, o1, rfl, -, hc1, -⟩ := NL.i1.2.2 j x hx.out
      obtain ⟨b2, o2, rfl, -, hc2, -⟩ := NL.i2.2.2 j y hy.out
      obtain ⟨us, uc, rfl⟩ := D.sees
      obtain ⟨N, hN⟩ : ∃ N, Hid (N = s2.pairs.length) := ⟨_, rfl⟩
      rw [← hN.out] at D G LO
      obtain ⟨⟨n0, n1, n2, n3⟩, -⟩ := NL.box
      have q7 := D.c7
      have q8 := D.c8
      have q9 := D.c9
      have f9 := D.f9
      by_cases hfull : N = m
      · have hfull' : ((N : Int) == (m : Int)) = true := by simp [hfull]
        have hgr : Hid (R = (s2.pairs, x)) := by show _ = _; rw [← HS2.out.2.2, zip_drop hx.out hy.out, gatherP, if_pos (by rw [← hN.out]; exact hfull)]
        clear hfull
        go_wp2
        go_region
        have HX : Below wr.heap.size wr wr.drew := (Below.refl _ _).drew
        generalize wr.drew = X at HX ⊢
        replace D := D.below HX
        replace G := G.trans (Grows.of_below h (.slice us N uc) nilV HX)
        replace LO := LO.step (Grows.of_below h (.slice us N uc) nilV HX) hlb
        replace hc1 := cell_below HX hc1
        replace hc2 := cell_below HX hc2
        clear n0 n1 n2 n3 q7 q8 q9 f9 NL HX
        have NL := hNH.out.stay LO.st
        obtain ⟨⟨n0, n1, n2, n3⟩, -⟩ := NL.box
        have q9 := D.c9
        have f9 := D.f9
        clear NL
        go_wp2
        obtain ⟨D1, G1⟩ := D.setNext x
        rw [HS2.out.2.1] at D1
        exact bodyPost_ret (v := .tuple #[]) (by simp [results, Try.results52, go_sem]) rfl ⟨rfl, _, by rw [hgr.out]; exact D1, G.trans G1⟩
      · have hfull' : ((N : Int) == (m : Int)) = false := by simp; omega
        have hmore : Hid ((s2.pairs ++ [(x, y)]).length ≤ m ∧ gatherP m (s2.pairs ++ [(x, y)]) s2.next ((ks.zip vs).drop (j + 1)) = R) := by
          have h1 := HS2.out.1
          have h2 := hN.out
          refine ⟨by rw [List.length_append, List.length_singleton]; omega, ?_⟩
          rw [← HS2.out.2.2, zip_drop hx.out hy.out, gatherP, if_neg (by rw [← hN.out]; exact hfull)]
        clear hfull
        go_wp2
        go_region
        have HX : Below wr.heap.size wr wr.drew := (Below.refl _ _).drew
        generalize wr.drew = X at HX ⊢
        replace D := D.below HX
        replace G := G.trans (Grows.of_below h (.slice us N uc) nilV HX)
        replace LO := LO.step (Grows.of_below h (.slice us N uc) nilV HX) hlb
        replace hc1 := cell_below HX hc1
        replace hc2 := cell_below HX hc2
        clear n0 n1 n2 n3 q7 q8 q9 f9 NL HX
        have NL := hNH.out.stay LO.st
        go_wp2
        obtain ⟨W0, hW0⟩ : ∃ X', X' = X.drew := ⟨_, rfl⟩
        have hB0 : Below X.heap.size X W0 := by rw [hW0]; exact (Below.refl _ _).drew
        replace G := G.trans (Grows.of_below h (.slice us N uc) nilV hB0)
        replace LO := LO.step (Grows.of_below h (.slice us N uc) nilV hB0) hlb
        replace D := D.below hB0
        clear NL
        have NL := hNH.out.stay LO.st
        replace hc1 := cell_below hB0 hc1
        replace hc2 := cell_below hB0 hc2
        obtain ⟨g2, cap2, U2, hrun17, bU, D', G'⟩ := D.push x y (by have := HS2.out.1; have := E.out; omega)
        obtain ⟨NN, hNN⟩ : ∃ NN, Hid (NN = s2.pairs.length + 1) := ⟨_, rfl⟩
        rw [← hNN.out] at hrun17 D' G'
        obtain ⟨W3, hW3⟩ : ∃ X', X' = U2.setCell ⟨h, 8, none⟩ (.slice (some ⟨g2, 0, none⟩) NN cap2) := ⟨_, rfl⟩
        have hst3 : Hid (U2.setCell ⟨h, 8, none⟩ (.slice (some ⟨g2, 0, none⟩) NN cap2) = W3) := hW3.symm
        have HW0 : Hid (W0 = X.drew) := hW0
        have hfin : Hid (ScanAt W3 h B v0 v1 v2 v3 v4 lo m (.slice (some ⟨g2, 0, none⟩) NN cap2) ⟨s2.pairs ++ [(x, y)], s2.next, s2.lv⟩ ∧ Grows h u nilV V (.slice (some ⟨g2, 0, none⟩) NN cap2) nilV W3 ∧ Loc lb W W3 (.slice (some ⟨g2, 0, none⟩) NN cap2) nilV) := by rw [hW3]; exact ⟨D', G.trans G', LO.step G' hlb⟩
        have NL3 := hNH.out.stay (LO.step G' hlb).st
        obtain ⟨b4, o4, e4, -, kc3, -⟩ := NL3.i1.2.2 j x hx.out
        cases e4
        obtain ⟨b4, o4, e4, -, vc3, -⟩ := NL3.i2.2.2 j y hy.out
        cases e4
        have hb1 : ¬ b1 = h := by have := NL3.j1 _ rfl; simp at this; omega
        have hb2 : ¬ b2 = h := by have := NL3.j2 _ rfl; simp at this; omega
        have hne : ¬ V.heap.size = h := by have := HLV.out; omega
        have kc2 := cell_unset kc3 hb1
        have vc2 := cell_unset vc3 hb2
        have nU := box4_unset' NL3.box hne
        have nX := NL3.box
        rw [← hW3] at kc3 vc3 nX
        have kc1 := cell_alloc hc1 (.cells #[.string x, .string y] 55)
        have vc1 := cell_alloc hc2 (.cells #[.string x, .string y] 55)
        have nA := NL.box.alloc (.cells #[.string x, .string y] 55)
        have q8 := D.c8
        have p8 := cell_alloc D.c8 (.cells #[.string x, .string y] 55)
        obtain ⟨o8, f8⟩ := bU
        obtain ⟨⟨n0, n1, n2, n3⟩, -⟩ := NL.box
        obtain ⟨⟨na0, na1, na2, na3⟩, -⟩ := nA
        obtain ⟨⟨nu0, nu1, nu2, nu3⟩, -⟩ := nU
        obtain ⟨⟨nw0, nw1, nw2, nw3⟩, -⟩ := nX
        clear D G LO D' G' NL NL3 hW0 hW3 hB0 hNH
        refine region_worlds (by kernel_rfl) [16, 17, 20] (gathV h V.heap.size b1 o1 b2 o2 j W0.heap.size g2 NN cap2 (.slice us N uc) (.slice (some ⟨b1, o1, none⟩) k1 d1) (.slice (some ⟨b2, o2, none⟩) k2 d2) x y) (worldsQ W0 (W0.alloc (.cells #[.string x, .string y] 55)) U2 W3) (by kernel_rfl) (by kernel_rfl) HW0.out.symm ?step 21 rfl ?done
        case step =>
          intro i o ho kk a2 hkk hmay hdf hsz hdep hsame
          match i, ho with
          | 0, ho =>
            cases ho
            have h0 := (hsame 0 rfl)
            exact val_op rfl (wanted_free rfl) (by clear hdep hsame hsz hdf; (try simp only [gathV, worldsQ]); go_simp) rfl rfl
          | 1, ho =>
            cases ho
            have h0 := (hsame 0 rfl)
            exact val_op rfl (wanted_free rfl) (by clear hdep hsame hsz hdf; (try simp only [gathV, worldsQ]); go_simp) rfl rfl
          | 2, ho =>
            cases ho
            have h43 := (hdep 1 _ 43 rfl rfl rfl)
            simp only [gathV] at h43
            exact val_op rfl (wanted_free rfl) (by clear hdep hsame hsz hdf; (try simp only [gathV, worldsQ]); go_simp) rfl rfl
          | 3, ho =>
            cases ho
            have h44 := (hdep 2 _ 44 rfl rfl rfl)
            simp only [gathV] at h44
            exact val_op rfl (wanted_free rfl) (by clear hdep hsame hsz hdf; (try simp only [gathV, worldsQ]); go_simp) rfl rfl
          | 4, ho =>
            cases ho
            have h45 := (hdep 3 _ 45 rfl rfl rfl)
            simp only [gathV] at h45
            match kk, hkk, hmay with
            | 0, _, hq => first | (cases hq; done) | (exact val_op rfl (wanted_free rfl) (by clear hdep hsame hsz hdf; (try simp only [gathV, worldsQ]); go_simp) rfl rfl)
            | 1, _, hq => first | (cases hq; done) | (exact val_op rfl (wanted_free rfl) (by clear hdep hsame hsz hdf; (try simp only [gathV, worldsQ]); go_simp) rfl rfl)
            | 2, _, hq => first | (cases hq; done) | (exact val_op rfl (wanted_free rfl) (by clear hdep hsame hsz hdf; (try simp only [gathV, worldsQ]); go_simp) rfl rfl)
            | 3, _, hq => first | (cases hq; done) | (exact val_op rfl (wanted_free rfl) (by clear hdep hsame hsz hdf; (try simp only [gathV, worldsQ]); go_simp) rfl rfl)
            | kk + 4, hkk, _ => simp at hkk
          | 5, ho =>
            cases ho
            have h3 := (hsame 3 rfl)
            exact val_op rfl (wanted_free rfl) (by clear hdep hsame hsz hdf; (try simp only [gathV, worldsQ]); go_simp) rfl rfl
          | 6, ho =>
            cases ho
            have h47 := (hdep 5 _ 47 rfl rfl rfl)
            simp only [gathV] at h47
            match kk, hkk, hmay with
            | 0, _, hq => first | (cases hq; done) | (exact val_op rfl (wanted_free rfl) (by clear hdep hsame hsz hdf; (try simp only [gathV, worldsQ]); go_simp) rfl rfl)
            | 1, _, hq => first | (cases hq; done) | (exact val_op rfl (wanted_free rfl) (by clear hdep hsame hsz hdf; (try simp only [gathV, worldsQ]); go_simp) rfl rfl)
            | 2, _, hq => first | (cases hq; done) | (exact val_op rfl (wanted_free rfl) (by clear hdep hsame hsz hdf; (try simp only [gathV, worldsQ]); go_simp) rfl rfl)
            | 3, _, hq => first | (cases hq; done) | (exact val_op rfl (wanted_free rfl) (by clear hdep hsame hsz hdf; (try simp only [gathV, worldsQ]); go_simp) rfl rfl)
            | kk + 4, hkk, _ => simp at hkk
          | 7, ho =>
            cases ho
            have h6 := (hsame 6 rfl)
            exact val_op rfl (wanted_free rfl) (by clear hdep hsame hsz hdf; (try simp only [gathV, worldsQ]); go_simp) rfl rfl
          | 8, ho =>
            cases ho
            have h48 := (hdep 6 _ 48 rfl rfl rfl)
            have h49 := (hdep 7 _ 49 rfl rfl rfl)
            simp only [gathV] at h48 h49
            exact val_op rfl (wanted_free rfl) (by clear hdep hsame hsz hdf; (try simp only [gathV, worldsQ]); go_simp) rfl rfl
          | 9, ho =>
            cases ho
            have h50 := (hdep 8 _ 50 rfl rfl rfl)
            simp only [gathV] at h50
            match kk, hkk, hmay with
            | 0, _, hq => first | (cases hq; done) | (exact val_op rfl (wanted_free rfl) (by clear hdep hsame hsz hdf; (try simp only [gathV, worldsQ]); go_simp) rfl rfl)
            | 1, _, hq => first | (cases hq; done) | (exact val_op rfl (wanted_free rfl) (by clear hdep hsame hsz hdf; (try simp only [gathV, worldsQ]); go_simp) rfl rfl)
            | 2, _, hq => first | (cases hq; done) | (exact val_op rfl (wanted_free rfl) (by clear hdep hsame hsz hdf; (try simp only [gathV, worldsQ]); go_simp) rfl rfl)
            | 3, _, hq => first | (cases hq; done) | (exact val_op rfl (wanted_free rfl) (by clear hdep hsame hsz hdf; (try simp only [gathV, worldsQ]); go_simp) rfl rfl)
            | kk + 4, hkk, _ => simp at hkk
          | 10, ho =>
            cases ho
            have h3 := (hsame 3 rfl)
            exact val_op rfl (wanted_free rfl) (by clear hdep hsame hsz hdf; (try simp only [gathV, worldsQ]); go_simp) rfl rfl
          | 11, ho =>
            cases ho
            have h52 := (hdep 10 _ 52 rfl rfl rfl)
            simp only [gathV] at h52
            match kk, hkk, hmay with
            | 0, _, hq => first | (cases hq; done) | (exact val_op rfl (wanted_free rfl) (by clear hdep hsame hsz hdf; (try simp only [gathV, worldsQ]); go_simp) rfl rfl)
            | 1, _, hq => first | (cases hq; done) | (exact val_op rfl (wanted_free rfl) (by clear hdep hsame hsz hdf; (try simp only [gathV, worldsQ]); go_simp) rfl rfl)
            | 2, _, hq => first | (cases hq; done) | (exact val_op rfl (wanted_free rfl) (by clear hdep hsame hsz hdf; (try simp only [gathV, worldsQ]); go_simp) rfl rfl)
            | 3, _, hq => first | (cases hq; done) | (exact val_op rfl (wanted_free rfl) (by clear hdep hsame hsz hdf; (try simp only [gathV, worldsQ]); go_simp) rfl rfl)
            | kk + 4, hkk, _ => simp at hkk
          | 12, ho =>
            cases ho
            have h6 := (hsame 6 rfl)
            exact val_op rfl (wanted_free rfl) (by clear hdep hsame hsz hdf; (try simp only [gathV, worldsQ]); go_simp) rfl rfl
          | 13, ho =>
            cases ho
            have h53 := (hdep 11 _ 53 rfl rfl rfl)
            have h54 := (hdep 12 _ 54 rfl rfl rfl)
            simp only [gathV] at h53 h54
            exact val_op rfl (wanted_free rfl) (by clear hdep hsame hsz hdf; (try simp only [gathV, worldsQ]); go_simp) rfl rfl
          | 14, ho =>
            cases ho
            have h55 := (hdep 13 _ 55 rfl rfl rfl)
            simp only [gathV] at h55
            match kk, hkk, hmay with
            | 0, _, hq => first | (cases hq; done) | (exact val_op rfl (wanted_free rfl) (by clear hdep hsame hsz hdf; (try simp only [gathV, worldsQ]); go_simp) rfl rfl)
            | 1, _, hq => first | (cases hq; done) | (exact val_op rfl (wanted_free rfl) (by clear hdep hsame hsz hdf; (try simp only [gathV, worldsQ]); go_simp) rfl rfl)
            | 2, _, hq => first | (cases hq; done) | (exact val_op rfl (wanted_free rfl) (by clear hdep hsame hsz hdf; (try simp only [gathV, worldsQ]); go_simp) rfl rfl)
            | 3, _, hq => first | (cases hq; done) | (exact val_op rfl (wanted_free rfl) (by clear hdep hsame hsz hdf; (try simp only [gathV, worldsQ]); go_simp) rfl rfl)
            | kk + 4, hkk, _ => simp at hkk
          | 15, ho =>
            cases ho
            have h51 := (hdep 9 _ 51 rfl rfl rfl)
            have h56 := (hdep 14 _ 56 rfl rfl rfl)
            simp only [gathV] at h51 h56
            exact val_op rfl (wanted_free rfl) (by clear hdep hsame hsz hdf; (try simp only [gathV, worldsQ]); go_simp) rfl rfl
          | 16, ho =>
            cases ho
            have h57 := (hdep 15 _ 57 rfl rfl rfl)
            simp only [gathV] at h57
            match kk, hkk, hmay with
            | 0, _, _ => exact val_op rfl (wanted_free rfl) (by clear hdep hsame hsz hdf; (try simp only [gathV, worldsQ]); go_simp) rfl rfl
            | 1, _, hq => cases hq
            | 2, _, hq => cases hq
            | 3, _, hq => cases hq
            | kk + 4, hkk, _ => simp at hkk
          | 17, ho =>
            cases ho
            have h46 := eval_tmp (hdep 4 _ 46 rfl rfl rfl)
            have h58 := eval_tmp (hdep 16 _ 58 rfl rfl rfl)
            simp only [gathV] at h46 h58
            match kk, hkk, hmay with
            | 0, _, hq => cases hq
            | 1, _, _ => exact val_append rfl (wanted_free rfl) rfl h46 h58 hrun17 rfl rfl
            | 2, _, hq => cases hq
            | 3, _, hq => cases hq
            | kk + 4, hkk, _ => simp at hkk
          | 18, ho =>
            cases ho
            have h42 := (hdep 0 _ 42 rfl rfl rfl)
            simp only [gathV] at h42
            exact val_op rfl (wanted_free rfl) (by clear hdep hsame hsz hdf; (try simp only [gathV, worldsQ]); go_simp) rfl rfl
          | 19, ho =>
            cases ho
            have h60 := (hdep 18 _ 60 rfl rfl rfl)
            simp only [gathV] at h60
            exact val_op rfl (wanted_free rfl) (by clear hdep hsame hsz hdf; (try simp only [gathV, worldsQ]); go_simp) rfl rfl
          | 20, ho =>
            cases ho
            have h61 := (hdep 19 _ 61 rfl rfl rfl)
            have h59 := (hdep 17 _ 59 rfl rfl rfl)
            simp only [gathV] at h61 h59
            match kk, hkk, hmay with
            | 0, _, hq => cases hq
            | 1, _, hq => cases hq
            | 2, _, _ => exact val_skip rfl (wanted_free rfl) rfl (by clear hdep hsame hsz hdf; simp only [worldsQ]; go_simp; try exact hst3.out) rfl
            | 3, _, hq => cases hq
            | kk + 4, hkk, _ => simp at hkk
          | kk + 21, ho => simp at ho
        case done =>
          simp [filledN, gathV, worldsQ]
          clear n0 n1 n2 n3 na0 na1 na2 na3 nu0 nu1 nu2 nu3 nw0 nw1 nw2 nw3 q8 p8 o8 f8 hrun17 hst3 HW0 hc1 hc2 kc1 vc1 kc2 vc2 kc3 vc3
          go_wp2
          go_roundw
          case rel => exact ⟨j + 1, _, ⟨s2.pairs ++ [(x, y)], s2.next, s2.lv⟩, by omega, by go_num, ⟨hmore.out.1, HS2.out.2.1, hmore.out.2⟩, hfin.out.1, hfin.out.2.1, hfin.out.2.2⟩
          case measure => simp [intOf]; omega
    · obtain rfl : k1 = j := by omega
      have hj0 : ¬ (k1 : Int) < k1 := by omega
      have hgr : Hid (R = (s2.pairs, s2.next)) := by
        show _ = _
        rw [← HS2.out.2.2, List.drop_eq_nil_of_le (by rw [List.length_zip]; have := E.out; omega), gatherP]
      obtain ⟨⟨n0, n1, n2, n3⟩, -⟩ := NL.box
      go_wp2
      go_end0
      rw [HS2.out.2.1.symm, hgr.out]
      exact ⟨rfl, _, D, G⟩

end Go.Proofs.Ytmldemgciidpbaa

namespace Go.Proofs.Ytmldemgciidpbaa
namespace Plain
theorem gatherP_len {m : Nat} : ∀ (ps P : List (ByteArray × ByteArray)) (nx : ByteArray), P.length ≤ m → (gatherP m P nx ps).1.length ≤ m
  | [], P, nx, h => h
  | p :: ps, P, nx, h => by
    rw [gatherP]
    split
    · exact h
    · exact gatherP_len ps (P ++ [p]) nx (by rw [List.length_append, List.length_singleton]; omega)

theorem throughS_len (H : Int → Bool → Option NodeS) (lo : ByteArray) (m : Nat) : ∀ (k : Nat) (s : ScanS) (block : Int) (low high : ByteArray), s.pairs.length ≤ m → (throughS H lo m k s block low high).2.pairs.length ≤ m
  | 0, s, _, _, _, h => h
  | k + 1, s, block, low, high, h => by
    rw [throughS]
    split
    · exact h
    · split
      · exact gatherP_len _ _ _ h
      · have fold : ∀ (l : List (Int × ByteArray × ByteArray)) (r : Int × ScanS), r.2.pairs.length ≤ m → (l.foldl (fun r x => if r.1 = 0 ∧ r.2.next.size = 0 then throughS H lo m k r.2 x.1 x.2.1 x.2.2 else r) r).2.pairs.length ≤ m := by
          intro l
          induction l with
          | nil => exact fun r hr => hr
          | cons x l ih =>
            intro r hr
            rw [List.foldl_cons]
            refine ih _ ?_
            split
            · exact throughS_len H lo m k r.2 _ _ _ hr
            · exact hr
        exact fold _ _ h
end Plain
open Go.RowKit Plain Anylast
set_option linter.unusedVariables false

/-- What is told of all below a place that lies 9 - k deep. -/
def ThroughAt (w : World) (h B : Nat) (v0 v1 v2 v3 v4 : Value) (H : Int → Bool → Option NodeS) (lo : ByteArray) (m k : Nat) : Prop :=
  ∀ (V : World) (u : Value) (s : ScanS) (block d : Int) (low high : ByteArray), Below w.heap.size w V → ScanAt V h B v0 v1 v2 v3 v4 lo m u s → s.pairs.length ≤ m → d = 9 - (k : Int) →
    Calls Try.prog 33 #[.pointer (some ⟨h, 0, none⟩), .agg #[.int .i64 block, .int .i64 d, .string low, .string high]] V fun e V' => e = .returned (.int .i64 (throughS H lo m k s block low high).1) ∧ ∃ u', ScanAt V' h B v0 v1 v2 v3 v4 lo m u' (throughS H lo m k s block low high).2 ∧ Grows h u nilV V u' nilV V'

/-- A node that was come to, in a box of its own. -/
def LaidN (h : Nat) (v0 v1 v2 v3 v4 : Value) (lv : Int) (nl : Bool) (nk nv : List ByteArray) (nc : List Int) (V0 X : World) (g : Nat) (a1 : Option Addr) (k1 d1 : Nat) (a2 : Option Addr) (k2 d2 : Nat) (a3 : Option Addr) (k3 d3 : Nat) : Prop :=
  Box4 X g (.bool nl) (.slice a1 k1 d1) (.slice a2 k2 d2) (.slice a3 k3 d3) ∧ V0.heap.size ≤ g ∧ (k1 = nk.length ∧ k2 = nv.length ∧ k3 = nc.length) ∧ (IsS X a1 d1 nk ∧ IsS X a2 d2 nv ∧ IsI X a3 d3 nc) ∧ (From V0.heap.size a1 ∧ From V0.heap.size a2 ∧ From V0.heap.size a3) ∧ WalkBox X h v0 v1 v2 v3 v4 lv ∧ Only5 h V0 X

theorem Only5.tr {h : Nat} {V U U' : World} {v0 v1 v2 v3 v4 : Value} {lv : Int} (t : Only5 h V U) (b : WalkBox U h v0 v1 v2 v3 v4 lv) (hb : Below U.heap.size U U') : Only5 h V U' :=
  t.low (Only5.of_below hb) fun i v hc => by
    by_cases hi : i = 5
    · subst hi; exact ⟨_, b.2.1⟩
    · exact ⟨v, t.c i v hi hc⟩

theorem Grows.under {h B : Nat} {v0 v1 v2 v3 v4 : Value} {lo : ByteArray} {m : Nat} {u u' : Value} {s : ScanS} {w V V' : World} (n : ScanAt V h B v0 v1 v2 v3 v4 lo m u s) (g : Grows h u nilV V u' nilV V') (hB : Below w.heap.size w V) (h1 : w.heap.size ≤ h) : Below w.heap.size w V' := by
  have := n.hb
  refine Below.turns hB g.t fun i hi => ?_
  rcases hi with e | e | e
  · omega
  · have := (n.row.lt i e).1; omega
  · exact (own_nil e).elim

set_option maxRecDepth 20000 in
set_option maxHeartbeats 4000000 in
theorem through_step (w : World) (h B : Nat) (a a' b : Option Addr) (n c n' c' p f : Nat) (ns : List Bool) (ps : List ByteArray) (root gen : Int) (lo : ByteArray) (m : Nat) (hn' : n' = ns.length) (hp : p = ps.length) (hpn : p = n') (hwh : w.heap.size ≤ h) (hB' : IsB w a' c' ns) (hP : IsS w b f ps) (hm : m ≤ 256) (k : Nat) (hk : k ≤ 8)
    (IH : ∀ k', k = k' + 1 → ThroughAt w h B (.slice a n c) (.slice a' n' c') (.slice b p f) (.int .i64 root) (.int .i64 gen) (holdsS ns ps gen) lo m k') :
    ThroughAt w h B (.slice a n c) (.slice a' n' c') (.slice b p f) (.int .i64 root) (.int .i64 gen) (holdsS ns ps gen) lo m k := by
  intro V u s block d low high hV D hsm hd
  obtain ⟨W, hW⟩ : ∃ W, W = V.alloc (.cells #[.int .i64 block, .int .i64 d, .string low, .string high] 78) := ⟨_, rfl⟩
  have HW : Below V.heap.size V W := by rw [hW]; exact (Below.refl _ _).alloc (Nat.le_refl _) _
  have BP : Box4 W V.heap.size (.int .i64 block) (.int .i64 d) (.string low) (.string high) := by rw [hW]; exact box4_new _ _ _ _ _ _ rfl
  have hlt : h < V.heap.size := cell_lt D.c6
  have HU : Hid (∀ g, u.ownBlock = some g → g < V.heap.size) := fun g hg => (D.row.lt g hg).2
  have G : Grows h u nilV V u nilV W := Grows.of_below h u nilV HW
  replace D := D.below HW
  have HB : Below w.heap.size w W := Below.tr hV HW
  obtain ⟨O, hO⟩ : ∃ O, O = visitS (holdsS ns ps gen) s.lv k block low high := ⟨_, rfl⟩
  obtain ⟨⟨nl, nk, nv, nc⟩, hnd⟩ : ∃ nd, nd = nodeO O := ⟨_, rfl⟩
  obtain ⟨E, hE⟩ : ∃ E, E = errO O := ⟨_, rfl⟩
  obtain ⟨lv, hlv⟩ : ∃ lv, lv = levelO O s.lv d := ⟨_, rfl⟩
  have cV : ∀ U, Below w.heap.size w U → WalkBox U h (.slice a n c) (.slice a' n' c') (.slice b p f) (.int .i64 root) (.int .i64 gen) s.lv → Calls Try.prog 47 #[.pointer (some ⟨h, 0, none⟩), .agg #[.int .i64 block, .int .i64 d, .string low, .string high]] U fun x V' => VisitC U h (.slice a n c) (.slice a' n' c') (.slice b p f) (.int .i64 root) (.int .i64 gen) x V' lv (nl, nk, nv, nc) E := fun U hU hb => by
    have := visit_any w U h a a' b n c n' c' p f ns ps root gen block d low high k s.lv hn' hp hpn hU hB' hP hk hd hb
    rw [← hO, ← hnd, ← hE, ← hlv] at this
    exact this
  have HO : Hid (O = visitS (holdsS ns ps gen) s.lv k block low high ∧ (nl, nk, nv, nc) = nodeO O ∧ E = errO O ∧ lv = levelO O s.lv d ∧ d = 9 - (k : Int)) := ⟨hO, hnd, hE, hlv, hd⟩
  have stands : Hid (∀ nd, O = some nd → standsN nd.1 nd.2.1 nd.2.2.1 nd.2.2.2 = true) := fun nd hh => by
    rw [hO] at hh
    cases k with
    | zero => cases hh
    | succ k => exact (rightN_iff.1 (holds_right (visitS_some hh).1)).1
  have HIH : Hid (∀ k', k = k' + 1 → ThroughAt w h B (.slice a n c) (.slice a' n' c') (.slice b p f) (.int .i64 root) (.int .i64 gen) (holdsS ns ps gen) lo m k') := IH
  have HM : Hid (s.pairs.length ≤ m ∧ m ≤ 256 ∧ k ≤ 8) := ⟨hsm, hm, hk⟩
  obtain ⟨H, hH⟩ : ∃ H, H = holdsS ns ps gen := ⟨_, rfl⟩
  rw [← hH] at HO HIH ⊢
  obtain ⟨⟨p0, p1, p2, p3⟩, -⟩ := id (hW ▸ BP)
  clear hO hnd hE hlv hd IH hn' hp hpn hB' hP hm hsm hk hH hV
  go_enter Try.func33, Try.ntmps33
  go_wp2
  rw [← hW]
  clear p0 p1 p2 p3 hW
  obtain ⟨V0, hV0⟩ : ∃ X, X = W.drew := ⟨_, rfl⟩
  have hB0 : Below W.heap.size W V0 := by rw [hV0]; exact (Below.refl _ _).drew
  replace HB := Below.tr HB hB0
  replace BP := BP.below hB0
  replace D := D.below hB0
  replace G := G.trans (Grows.of_below h u nilV hB0)
  have HV0 : Hid (V0 = W.drew) := hV0
  have hle0 : V.heap.size < V0.heap.size := BP.lt
  clear hV0 hB0 HW
  obtain ⟨⟨p0, p1, p2, p3⟩, -⟩ := id BP
  have WB := D.wb
  refine (fun (key : Hid (∀ X g a1 k1 d1 a2 k2 d2 a3 k3 d3, LaidN h (.slice a n c) (.slice a' n' c') (.slice b p f) (.int .i64 root) (.int .i64 gen) lv nl nk nv nc V0 X g a1 k1 d1 a2 k2 d2 a3 k3 d3 → (?prop : World → Nat → Option Addr → Nat → Nat → Option Addr → Nat → Nat → Option Addr → Nat → Nat → Prop) X g a1 k1 d1 a2 k2 d2 a3 k3 d3)) => ?reg) ?kont
  case reg =>
    refine wp_region_noPanic ?_
    refine wp_region_held_drew (S := fun X => X.cell? ⟨V.heap.size, 0, none⟩ = some (.int .i64 block) ∧ X.cell? ⟨V.heap.size, 1, none⟩ = some (.int .i64 d) ∧ X.cell? ⟨V.heap.size, 2, none⟩ = some (.string low) ∧ X.cell? ⟨V.heap.size, 3, none⟩ = some (.string high)) (by kernel_rfl) (by rw [← HV0.out]; exact ⟨p0, p1, p2, p3⟩) (fun hHeld => ?_)
    rw [← HV0.out] at hHeld ⊢
    refine take_at (i := 0) (v := ?_) rfl (by kernel_rfl) (by kernel_rfl) (by kernel_rfl) (fun _ _ _ h => h) (Or.inl ⟨by rfl, ?_⟩) (by assumption) ?_
    rotate_left 1
    · (intro w hSw; (try dsimp only at hSw); go_simp; (try with_reducible rfl))
    try simp only [Act.put, List.setIfInBounds_toArray, List.set_cons_zero, List.set_cons_succ]
    refine take_at (i := 1) (v := ?_) rfl (by kernel_rfl) (by kernel_rfl) (by kernel_rfl) (fun _ _ _ h => h) (Or.inl ⟨by rfl, ?_⟩) (by assumption) ?_
    rotate_left 1
    · (intro w hSw; (try dsimp only at hSw); go_simp; (try with_reducible rfl))
    try simp only [Act.put, List.setIfInBounds_toArray, List.set_cons_zero, List.set_cons_succ]
    refine take_at (i := 2) (v := ?_) rfl (by kernel_rfl) (by kernel_rfl) (by kernel_rfl) (fun _ _ _ h => h) (Or.inl ⟨by rfl, ?_⟩) (by assumption) ?_
    rotate_left 1
    · (intro w hSw; (try dsimp only at hSw); go_simp; (try with_reducible rfl))
    try simp only [Act.put, List.setIfInBounds_toArray, List.set_cons_zero, List.set_cons_succ]
    refine take_at (i := 3) (v := ?_) rfl (by kernel_rfl) (by kernel_rfl) (by kernel_rfl) (fun _ _ _ h => h) (Or.inl ⟨by rfl, ?_⟩) (by assumption) ?_
    rotate_left 1
    · (intro w hSw; (try dsimp only at hSw); go_simp; (try with_reducible rfl))
    try simp only [Act.put, List.setIfInBounds_toArray, List.set_cons_zero, List.set_cons_succ]
    refine wpAnyH_ready (rs := [4, 8]) (by kernel_rfl) (by simp) ?_
    refine cons_at (i := 4) rfl (fun K hK => ?callFirst) (cons_at (i := 8) rfl (fun K hK => ?allocFirst) AllReadyH.nil)
    case callFirst =>
      go_simp
      go_at_call 47
      refine (cV _ HB WB).mono ?_
      rintro y t ⟨k1, a1, d1, k2, a2, d2, k3, a3, d3, rfl, e1, e2, e3, i1, i2, i3, j1, j2, j3, WB1, O5⟩
      have EE : Hid (k1 = nk.length ∧ k2 = nv.length ∧ k3 = nc.length) := ⟨e1, e2, e3⟩
      clear e1 e2 e3
      have hs : t.cell? ⟨V.heap.size, 0, none⟩ = some (.int .i64 block) ∧ t.cell? ⟨V.heap.size, 1, none⟩ = some (.int .i64 d) ∧ t.cell? ⟨V.heap.size, 2, none⟩ = some (.string low) ∧ t.cell? ⟨V.heap.size, 3, none⟩ = some (.string high) := (BP.turns O5.t (by omega)).1
      refine hK.out _ _ ?_ (fun hHeld2 => ?_)
      · exact hs
      clear hK K
      refine take_at (i := 5) (v := ?_) rfl (by kernel_rfl) (by kernel_rfl) (by kernel_rfl) (fun _ _ _ h => h) (Or.inl ⟨by rfl, ?_⟩) (by assumption) ?_
      rotate_left 1
      · (intro w hSw; (try dsimp only at hSw); go_simp; (try with_reducible rfl))
      try simp only [Act.put, List.setIfInBounds_toArray, List.set_cons_zero, List.set_cons_succ]
      refine take_at (i := 6) (v := ?_) rfl (by kernel_rfl) (by kernel_rfl) (by kernel_rfl) (fun _ _ _ h => h) (Or.inl ⟨by rfl, ?_⟩) (by assumption) ?_
      rotate_left 1
      · (intro w hSw; (try dsimp only at hSw); go_simp; (try with_reducible rfl))
      try simp only [Act.put, List.setIfInBounds_toArray, List.set_cons_zero, List.set_cons_succ]
      refine take_at (i := 7) (v := ?_) rfl (by kernel_rfl) (by kernel_rfl) (by kernel_rfl) (fun _ _ _ h => h) (Or.inl ⟨by rfl, ?_⟩) (by assumption) ?_
      rotate_left 1
      · (intro w hSw; (try dsimp only at hSw); go_simp; (try with_reducible rfl))
      try simp only [Act.put, List.setIfInBounds_toArray, List.set_cons_zero, List.set_cons_succ]
      refine wpAnyH_ready (rs := [8]) (by kernel_rfl) (by simp) ?_
      refine cons_at (i := 8) rfl (fun K hK => ?_) AllReadyH.nil
      go_simp
      refine hK.out _ _ ?_ (fun hHeld3 => ?_)
      · exact ⟨cell_alloc hs.1 _, cell_alloc hs.2.1 _, cell_alloc hs.2.2.1 _, cell_alloc hs.2.2.2 _⟩
      clear hK K
      try simp only [Act.put, List.setIfInBounds_toArray, List.set_cons_zero, List.set_cons_succ]
      refine wpAnyH_ready (rs := [9]) (by kernel_rfl) (by simp) ?_
      refine cons_at (i := 9) rfl (fun K hK => ?_) AllReadyH.nil
      go_simp
      have hA := (Below.refl t.heap.size t).alloc (Nat.le_refl _) (.cells #[.bool nl, .slice a1 k1 d1, .slice a2 k2 d2, .slice a3 k3 d3] 32)
      have F : LaidN h (.slice a n c) (.slice a' n' c') (.slice b p f) (.int .i64 root) (.int .i64 gen) lv nl nk nv nc V0 (t.alloc (.cells #[.bool nl, .slice a1 k1 d1, .slice a2 k2 d2, .slice a3 k3 d3] 32)) t.heap.size a1 k1 d1 a2 k2 d2 a3 k3 d3 := ⟨box4_new _ _ _ _ _ _ rfl, O5.t.size, EE.out, ⟨i1.below hA, i2.below hA, i3.below hA⟩, ⟨j1, j2, j3⟩, WB1.below hA, O5.tr WB1 hA⟩
      refine hK.out _ _ ?_ (fun hHeld4 => ?_)
      · exact ⟨cell_alloc hs.1 _, cell_alloc hs.2.1 _, cell_alloc hs.2.2.1 _, cell_alloc hs.2.2.2 _⟩
      clear hK K
      try simp only [Act.put, List.setIfInBounds_toArray, List.set_cons_zero, List.set_cons_succ]
      clear hHeld hHeld2 hHeld3
      refine take_at (i := 10) (v := ?_) rfl (by kernel_rfl) (by kernel_rfl) (by kernel_rfl) (fun _ _ _ h => h) (Or.inl ⟨by rfl, ?_⟩) (by assumption) ?_
      rotate_left 1
      · (intro w hSw; (try dsimp only at hSw); go_simp; (try with_reducible rfl))
      try simp only [Act.put, List.setIfInBounds_toArray, List.set_cons_zero, List.set_cons_succ]
      refine wpAnyH_done (by kernel_rfl) ?_ _
      refine NoPanic.normal ?_
      clear hHeld4 hA hs
      generalize t.alloc (.cells #[.bool nl, .slice a1 k1 d1, .slice a2 k2 d2, .slice a3 k3 d3] 32) = X at F ⊢
      generalize t.heap.size = g at F ⊢
      exact key.out X g a1 k1 d1 a2 k2 d2 a3 k3 d3 F
    case allocFirst =>
      go_simp
      refine hK.out _ _ ?_ (fun hHeld2 => ?_)
      · exact ⟨cell_alloc p0 _, cell_alloc p1 _, cell_alloc p2 _, cell_alloc p3 _⟩
      clear hK K
      try simp only [Act.put, List.setIfInBounds_toArray, List.set_cons_zero, List.set_cons_succ]
      refine wpAnyH_ready (rs := [4]) (by kernel_rfl) (by simp) ?_
      refine cons_at (i := 4) rfl (fun K hK => ?_) AllReadyH.nil
      go_simp
      go_at_call 47
      have hA := (Below.refl V0.heap.size V0).alloc (Nat.le_refl _) (.cells #[.bool false, .slice none 0 0, .slice none 0 0, .slice none 0 0] 32)
      have bZ := box4_new V0 (.bool false) (.slice none 0 0) (.slice none 0 0) (.slice none 0 0) 32 rfl
      refine (cV _ (Below.tr HB hA) (WB.below hA)).mono ?_
      rintro y t ⟨k1, a1, d1, k2, a2, d2, k3, a3, d3, rfl, e1, e2, e3, i1, i2, i3, j1, j2, j3, WB1, O5⟩
      have EE : Hid (k1 = nk.length ∧ k2 = nv.length ∧ k3 = nc.length) := ⟨e1, e2, e3⟩
      clear e1 e2 e3
      have hs : t.cell? ⟨V.heap.size, 0, none⟩ = some (.int .i64 block) ∧ t.cell? ⟨V.heap.size, 1, none⟩ = some (.int .i64 d) ∧ t.cell? ⟨V.heap.size, 2, none⟩ = some (.string low) ∧ t.cell? ⟨V.heap.size, 3, none⟩ = some (.string high) := ((BP.below hA).turns O5.t (by omega)).1
      have hts : V0.heap.size + 1 ≤ t.heap.size := by have := O5.t.size; simp at this; omega
      replace bZ := bZ.turns O5.t (by omega)
      obtain ⟨⟨z0, z1, z2, z3⟩, y0, y1, y2, y3⟩ := id bZ
      refine hK.out _ _ ?_ (fun hHeld3 => ?_)
      · exact hs
      clear hK K
      refine take_at (i := 5) (v := ?_) rfl (by kernel_rfl) (by kernel_rfl) (by kernel_rfl) (fun _ _ _ h => h) (Or.inl ⟨by rfl, ?_⟩) (by assumption) ?_
      rotate_left 1
      · (intro w hSw; (try dsimp only at hSw); go_simp; (try with_reducible rfl))
      try simp only [Act.put, List.setIfInBounds_toArray, List.set_cons_zero, List.set_cons_succ]
      refine take_at (i := 6) (v := ?_) rfl (by kernel_rfl) (by kernel_rfl) (by kernel_rfl) (fun _ _ _ h => h) (Or.inl ⟨by rfl, ?_⟩) (by assumption) ?_
      rotate_left 1
      · (intro w hSw; (try dsimp only at hSw); go_simp; (try with_reducible rfl))
      try simp only [Act.put, List.setIfInBounds_toArray, List.set_cons_zero, List.set_cons_succ]
      refine take_at (i := 7) (v := ?_) rfl (by kernel_rfl) (by kernel_rfl) (by kernel_rfl) (fun _ _ _ h => h) (Or.inl ⟨by rfl, ?_⟩) (by assumption) ?_
      rotate_left 1
      · (intro w hSw; (try dsimp only at hSw); go_simp; (try with_reducible rfl))
      try simp only [Act.put, List.setIfInBounds_toArray, List.set_cons_zero, List.set_cons_succ]
      refine wpAnyH_ready (rs := [9]) (by kernel_rfl) (by simp) ?_
      refine cons_at (i := 9) rfl (fun K hK => ?_) AllReadyH.nil
      go_simp
      have T4 := turns_put4 t V0.heap.size (.bool nl) (.slice a1 k1 d1) (.slice a2 k2 d2) (.slice a3 k3 d3)
      have F : LaidN h (.slice a n c) (.slice a' n' c') (.slice b p f) (.int .i64 root) (.int .i64 gen) lv nl nk nv nc V0 ((((t.setCell ⟨V0.heap.size, 0, none⟩ (.bool nl)).setCell ⟨V0.heap.size, 1, none⟩ (.slice a1 k1 d1)).setCell ⟨V0.heap.size, 2, none⟩ (.slice a2 k2 d2)).setCell ⟨V0.heap.size, 3, none⟩ (.slice a3 k3 d3)) V0.heap.size a1 k1 d1 a2 k2 d2 a3 k3 d3 :=
        ⟨bZ.put _ _ _ _, Nat.le_refl _, EE.out, ⟨i1.turns T4 (fun x hx e => by have := j1 x hx; simp at this; omega), i2.turns T4 (fun x hx e => by have := j2 x hx; simp at this; omega), i3.turns T4 (fun x hx e => by have := j3 x hx; simp at this; omega)⟩, ⟨j1.mono (by simp), j2.mono (by simp), j3.mono (by simp)⟩, WB1.put (by omega) _ _ _ _, ((Only5.of_below hA).low O5 (fun i v hc => ⟨v, cell_below hA hc⟩)).put (by omega) (Nat.le_refl _) _ _ _ _⟩
      refine hK.out _ _ ?_ (fun hHeld4 => ?_)
      · exact ⟨T4.cell (p := ⟨V.heap.size, 0, none⟩) (by show ¬ V.heap.size = _; omega) hs.1, T4.cell (p := ⟨V.heap.size, 1, none⟩) (by show ¬ V.heap.size = _; omega) hs.2.1, T4.cell (p := ⟨V.heap.size, 2, none⟩) (by show ¬ V.heap.size = _; omega) hs.2.2.1, T4.cell (p := ⟨V.heap.size, 3, none⟩) (by show ¬ V.heap.size = _; omega) hs.2.2.2⟩
      clear hK K
      try simp only [Act.put, List.setIfInBounds_toArray, List.set_cons_zero, List.set_cons_succ]
      clear hHeld hHeld2 hHeld3
      refine take_at (i := 10) (v := ?_) rfl (by kernel_rfl) (by kernel_rfl) (by kernel_rfl) (fun _ _ _ h => h) (Or.inl ⟨by rfl, ?_⟩) (by assumption) ?_
      rotate_left 1
      · (intro w hSw; (try dsimp only at hSw); go_simp; (try with_reducible rfl))
      try simp only [Act.put, List.setIfInBounds_toArray, List.set_cons_zero, List.set_cons_succ]
      refine wpAnyH_done (by kernel_rfl) ?_ _
      refine NoPanic.normal ?_
      exact key.out _ _ a1 k1 d1 a2 k2 d2 a3 k3 d3 F
  case kont =>
    intro X g a1 k1 d1 a2 k2 d2 a3 k3 d3 F
    obtain ⟨BN, hg, EE, II, JJ, WB1, O5⟩ := F
    have LO : Loc V.heap.size X X u nilV := ⟨Turns.refl _ _, fun g hg => .inl (hg.elim (HU.out g) (fun e => (own_nil e).elim))⟩
    have NL : NodeLo X V.heap.size g nl a1 k1 d1 a2 k2 d2 a3 k3 d3 nk nv nc := ⟨BN, EE.1, EE.2.1, EE.2.2, II.1, II.2.1, II.2.2, by omega, JJ.1.mono (by omega), JJ.2.1.mono (by omega), JJ.2.2.mono (by omega)⟩
    replace G := G.trans (grows_only u O5)
    replace HB := Below.turns HB O5.t (fun i hi => by omega)
    replace BP := BP.turns O5.t (by omega)
    replace D := D.visit O5 WB1
    have hXs : V.heap.size ≤ X.heap.size := by have := O5.t.size; omega
    obtain ⟨⟨n0, n1, n2, n3⟩, -⟩ := id BN
    clear p0 p1 p2 p3 cV WB WB1 O5 EE II JJ hg hle0 HV0 HU BN
    cases O with
    | none =>
      obtain ⟨hO, hnd, rfl, rfl, hd⟩ := HO.out
      cases hnd
      have hR : Hid (throughS H lo m k s block low high = (81, s)) := by
        show _ = _
        cases k with
        | zero => rfl
        | succ k => rw [throughS, ← hO]
      clear hO hd HO stands HM HIH
      go_wp2
      go_ret
      rw [hR.out]
      exact ⟨rfl, u, D, G⟩
    | some nd =>
      obtain ⟨hO, hnd, rfl, rfl, hd⟩ := HO.out
      cases hnd
      have hst : standsN nl nk nv nc = true := stands.out _ rfl
      cases k with
      | zero => cases hO
      | succ k =>
        have hd8 : 8 - (k : Int) = d := by omega
        have hd9 : d + 1 = 9 - (k : Int) := by omega
        have hdr : 0 ≤ d ∧ d ≤ 100 := by have := HM.out; omega
        cases nl with
        | true =>
          have hR : Hid (throughS H lo m (k + 1) s block low high = (0, ⟨(gatherP m s.pairs s.next ((nk.zip nv).drop (findN lo nk))).1, (gatherP m s.pairs s.next ((nk.zip nv).drop (findN lo nk))).2, d⟩)) := by
            show _ = _
            rw [throughS, ← hO, ← hd8]
            rfl
          have cG := gather_any X h B V.heap.size (.slice a n c) (.slice a' n' c') (.slice b p f) (.int .i64 root) (.int .i64 gen) lo m u ⟨s.pairs, s.next, d⟩ a1 a2 a3 k1 d1 k2 d2 k3 d3 nk nv nc D hst NL.e1 NL.e2 NL.e3 NL.i1 NL.i2 NL.i3 NL.j1 NL.j2 NL.j3 hlt (fun g hg => (LO.fr g (.inl hg)).elim id (fun e => by have := (D.row.lt g hg).2; omega)) hXs HM.out.2.1 HM.out.1
          clear hO hd HO stands HM HIH hd8 hd9 hdr hst NL LO
          go_wp2_with (go_at_call 52; refine cG.mono ?_; rintro y t ⟨rfl, u', D', G'⟩)
          go_ret
          rw [hR.out]
          exact ⟨rfl, u', D', G.trans G'⟩
        | false =>
          obtain ⟨R, hR⟩ : ∃ R, R = throughS H lo m (k + 1) s block low high := ⟨_, rfl⟩
          have HR0 : Hid (throughS H lo m (k + 1) s block low high = R) := hR.symm
          have hR1 : R = ((kidsT low high nk nc).drop (kidN nk lo)).foldl (fun (r : Int × ScanS) (x : Int × ByteArray × ByteArray) => if r.1 = 0 ∧ r.2.next.size = 0 then throughS H lo m k r.2 x.1 x.2.1 x.2.2 else r) (0, s) := by
            rw [hR, throughS, ← hO]
            rfl
          have hsh := shape_inner.1 (standsN_iff.1 hst).2.2.2.2.2
          obtain ⟨i, hi⟩ : ∃ i, i = kidN nk lo := ⟨_, rfl⟩
          have hik : i ≤ nk.length := by rw [hi]; exact kidN_le nk lo
          have hkr : kidR false nk nv nc lo = (i : Nat) := by unfold kidR; rw [if_pos ⟨hst, rfl⟩, hi]
          rw [← hi] at hR1
          have cK : ∀ U, Below X.heap.size X U → Calls Try.prog 50 #[.agg #[.bool false, .slice a1 k1 d1, .slice a2 k2 d2, .slice a3 k3 d3], .string lo] U fun x w' => x = .returned (.int .i64 i) ∧ Below U.heap.size U w' := fun U hU => by have := nodeKid_any false a1 a2 a3 d1 d2 d3 k1 k2 k3 nk nv nc lo U NL.e1 NL.e2 NL.e3 (NL.i1.below hU) (NL.i2.below hU) (NL.i3.below hU); rw [hkr] at this; exact this
          have cT := HIH.out k rfl
          have HRR : Hid (R = ((kidsT low high nk nc).drop i).foldl (fun (r : Int × ScanS) (x : Int × ByteArray × ByteArray) => if r.1 = 0 ∧ r.2.next.size = 0 then throughS H lo m k r.2 x.1 x.2.1 x.2.2 else r) (0, s)) := hR1
          have HE : Hid (k1 = nk.length ∧ k3 = nc.length ∧ nc.length = nk.length + 1 ∧ i ≤ nk.length ∧ d + 1 = 9 - (k : Int) ∧ (0 ≤ d ∧ d ≤ 100) ∧ s.pairs.length ≤ m) := ⟨NL.e1, NL.e3, hsh.2.2, hik, hd9, hdr, HM.out.1⟩
          have HN : Hid (NodeLo X V.heap.size g false a1 k1 d1 a2 k2 d2 a3 k3 d3 nk nv nc) := NL
          have mk3 : k3 ≤ 9223372036854775807 := by rw [NL.e3]; exact Nat.le_trans NL.i3.1 NL.i3.2.1
          have hsv : (⟨s.pairs, s.next, s.lv⟩ : ScanS) = s := rfl
          have D0 : ScanAt X h B (.slice a n c) (.slice a' n' c') (.slice b p f) (.int .i64 root) (.int .i64 gen) lo m u s := D
          clear D hsv
          have D := D0
          clear D0 hO hd HO stands HIH hd8 hd9 hdr hst hR hR1 hsh hi hik hkr NL
          go_wp2
          have HX : Below X.heap.size X X.drew := (Below.refl _ _).drew
          have BN := HN.out.box.below HX
          replace D := D.below HX
          go_region_held3 (fun Y => Y.cell? ⟨g, 0, none⟩ = some (.bool false) ∧ Y.cell? ⟨g, 1, none⟩ = some (.slice a1 k1 d1) ∧ Y.cell? ⟨g, 2, none⟩ = some (.slice a2 k2 d2) ∧ Y.cell? ⟨g, 3, none⟩ = some (.slice a3 k3 d3) ∧ Y.cell? ⟨h, 6, none⟩ = some (.string lo)) (exact ⟨BN.1.1, BN.1.2.1, BN.1.2.2.1, BN.1.2.2.2, D.c6⟩)
            (first
              | (go_at_call 50; refine (cK _ HX).mono ?_; rintro y w2 ⟨rfl, hb⟩; replace HX := Below.tr HX hb; replace BN := BN.below hb; replace D := D.below hb; clear hb))
          replace G := G.trans (Grows.of_below h u nilV HX)
          replace LO := LO.step (Grows.of_below h u nilV HX) hlt
          replace HB := Below.tr HB HX
          have HBP : Hid (Box4 X V.heap.size (.int .i64 block) (.int .i64 d) (.string low) (.string high)) := BP
          clear BN n0 n1 n2 n3 HX cK BP hXs
          go_wp2
          go_loopw [7] (fun v wr => ∃ (j : Nat) (u2 : Value) (s2 : ScanS), j ≤ k3 ∧ v = .int .i64 j ∧ (s2.pairs.length ≤ m ∧ R = ((kidsT low high nk nc).drop j).foldl (fun (r : Int × ScanS) (x : Int × ByteArray × ByteArray) => if r.1 = 0 ∧ r.2.next.size = 0 then throughS H lo m k r.2 x.1 x.2.1 x.2.2 else r) (0, s2)) ∧ ScanAt wr h B (.slice a n c) (.slice a' n' c') (.slice b p f) (.int .i64 root) (.int .i64 gen) lo m u2 s2 ∧ Grows h u nilV V u2 nilV wr ∧ Loc V.heap.size X wr u2 nilV ∧ Below w.heap.size w wr) (fun v _ => k3 - (intOf v).toNat)
          case atStart => exact ⟨i, u, s, by have := HE.out; omega, rfl, ⟨HE.out.2.2.2.2.2.2, HRR.out⟩, D, G, LO, HB⟩
          case round =>
            clear D G LO HB
            obtain ⟨j, u2, s2, hj, rfl, hs2, D, G, LO, HB⟩ := hrel
            have HS2 : Hid (s2.pairs.length ≤ m ∧ R = ((kidsT low high nk nc).drop j).foldl (fun (r : Int × ScanS) (x : Int × ByteArray × ByteArray) => if r.1 = 0 ∧ r.2.next.size = 0 then throughS H lo m k r.2 x.1 x.2.1 x.2.2 else r) (0, s2)) := hs2
            clear hs2
            have NL := HN.out.stay LO.st
            have BP := HBP.out.turns LO.st (by omega)
            obtain ⟨⟨n0, n1, n2, n3⟩, -⟩ := id NL.box
            obtain ⟨⟨p0, p1, p2, p3⟩, -⟩ := id BP
            have q9 := D.c9
            by_cases hlt3 : j < k3
            · have hlt3' : (j : Int) < k3 := by omega
              by_cases hnx : s2.next.size = 0
              · have hne : s2.next = ⟨#[]⟩ := str_empty hnx
                rw [hne] at q9
                obtain ⟨kb, hkb⟩ : ∃ x, nc[j]? = some x := ⟨_, List.getElem?_eq_getElem (by have := HE.out; omega)⟩
                obtain ⟨x, hx⟩ : ∃ x, x = kidFrom low nk j := ⟨_, rfl⟩
                obtain ⟨z, hz⟩ : ∃ z, z = kidTo high nk j := ⟨_, rfl⟩
                have cD : ∀ U, Below wr.heap.size wr U → Calls Try.prog 49 #[.agg #[.int .i64 block, .int .i64 d, .string low, .string high], .agg #[.bool false, .slice a1 k1 d1, .slice a2 k2 d2, .slice a3 k3 d3], .int .i64 j] U fun x' w' => x' = .returned (.agg #[.int .i64 kb, .int .i64 (d + 1), .string x, .string z]) ∧ Below U.heap.size U w' := fun U hU => by have := placeBelow_any block d low high false a1 a2 a3 k1 d1 k2 d2 k3 d3 nk nv nc j kb U NL.e1 NL.e3 (NL.i1.below hU) (NL.i3.below hU) hkb HE.out.2.2.1 HE.out.2.2.2.2.2.1; rw [← hx, ← hz] at this; exact this
                obtain ⟨⟨e, s3⟩, hes⟩ : ∃ r, r = throughS H lo m k s2 kb x z := ⟨_, rfl⟩
                have cT2 : ∀ U, Below w.heap.size w U → ScanAt U h B (.slice a n c) (.slice a' n' c') (.slice b p f) (.int .i64 root) (.int .i64 gen) lo m u2 s2 → Calls Try.prog 33 #[.pointer (some ⟨h, 0, none⟩), .agg #[.int .i64 kb, .int .i64 (d + 1), .string x, .string z]] U fun e' V' => e' = .returned (.int .i64 e) ∧ ∃ u', ScanAt V' h B (.slice a n c) (.slice a' n' c') (.slice b p f) (.int .i64 root) (.int .i64 gen) lo m u' s3 ∧ Grows h u2 nilV U u' nilV V' := fun U hU hD => by have := cT U u2 s2 kb (d + 1) x z hU hD HS2.out.1 HE.out.2.2.2.2.1; rw [← hes] at this; exact this
                have hs3 : s3.pairs.length ≤ m := by have := throughS_len H lo m k s2 kb x z HS2.out.1; rw [← hes] at this; exact this
                have hdrop : R = ((kidsT low high nk nc).drop (j + 1)).foldl (fun (r : Int × ScanS) (x : Int × ByteArray × ByteArray) => if r.1 = 0 ∧ r.2.next.size = 0 then throughS H lo m k r.2 x.1 x.2.1 x.2.2 else r) (e, s3) := by
                  have hk1 : (kidsT low high nk nc)[j]? = some (kb, x, z) := by rw [hx, hz]; exact kidsT_get hkb
                  obtain ⟨hl, hv⟩ := List.getElem?_eq_some_iff.1 hk1
                  rw [HS2.out.2, List.drop_eq_getElem_cons hl, hv, List.foldl_cons, if_pos ⟨rfl, hnx⟩, ← hes]
                have HD2 : Hid (s3.pairs.length ≤ m ∧ R = ((kidsT low high nk nc).drop (j + 1)).foldl (fun (r : Int × ScanS) (x : Int × ByteArray × ByteArray) => if r.1 = 0 ∧ r.2.next.size = 0 then throughS H lo m k r.2 x.1 x.2.1 x.2.2 else r) (e, s3)) := ⟨hs3, hdrop⟩
                clear hs3 hdrop hes hx hz hkb cT hnx hne HS2 NL BP
                have BPr := HBP.out.turns LO.st (by omega)
                by_cases he : e = 0
                · subst he
                  go_wp2_with (first
                    | (go_at_call 49; refine (cD _ (Below.refl _ _)).mono ?_; rintro y t1 ⟨rfl, hb⟩; replace D := D.below hb; replace HB := Below.tr HB hb; replace G := G.trans (Grows.of_below h u2 nilV hb); replace LO := LO.step (Grows.of_below h u2 nilV hb) hlt; clear n0 n1 n2 n3 p0 p1 p2 p3 q9 hb)
                    | (go_at_call 33; refine (cT2 _ HB D).mono ?_; rintro y t2 ⟨rfl, u3, D3, G3⟩; replace HB := Grows.under D G3 HB hwh; replace D := D3; replace G := G.trans G3; replace LO := LO.step G3 hlt; clear D3 G3))
                  go_roundw
                  case rel => exact ⟨j + 1, u3, s3, by omega, by go_num, HD2.out, D, G, LO, HB⟩
                  case measure => simp [intOf]; omega
                · have he' : (e != 0) = true := by simpa using he
                  have hRe : Hid (R = (e, s3)) := by
                    show _ = _
                    rw [HD2.out.2]
                    exact fold_stuck _ _ (fun y => if_neg (fun hh => he hh.1)) _
                  go_wp2_with (first
                    | (go_at_call 49; refine (cD _ (Below.refl _ _)).mono ?_; rintro y t1 ⟨rfl, hb⟩; replace D := D.below hb; replace HB := Below.tr HB hb; replace G := G.trans (Grows.of_below h u2 nilV hb); replace LO := LO.step (Grows.of_below h u2 nilV hb) hlt; clear n0 n1 n2 n3 p0 p1 p2 p3 q9 hb)
                    | (go_at_call 33; refine (cT2 _ HB D).mono ?_; rintro y t2 ⟨rfl, u3, D3, G3⟩; replace G := G.trans G3; clear G3))
                  go_ret
                  rw [HR0.out, hRe.out]
                  exact ⟨rfl, u3, D3, G⟩
              · have hnf := str_full hnx
                have hRe : Hid (R = (0, s2)) := by
                  show _ = _
                  rw [HS2.out.2]
                  exact fold_stuck _ _ (fun y => if_neg (fun hh => hnx hh.2)) _
                clear hnx
                go_wp2
                go_ret
                rw [HR0.out, hRe.out]
                exact ⟨rfl, u2, D, G⟩
            · obtain rfl : k3 = j := by omega
              have hj3 : ¬ (k3 : Int) < k3 := by omega
              have hRe : Hid (R = (0, s2)) := by
                show _ = _
                rw [HS2.out.2, List.drop_eq_nil_of_le (by rw [kidsT_length]; have := HE.out; omega)]
                rfl
              go_wp2
              go_ret
              rw [HR0.out, hRe.out]
              exact ⟨rfl, u2, D, G⟩

end Go.Proofs.Ytmldemgciidpbaa

namespace Go.Proofs.Ytmldemgciidpbaa
namespace Plain
theorem gatherP_all {P : ByteArray × ByteArray → Prop} {m : Nat} : ∀ (ps Q : List (ByteArray × ByteArray)) (nx : ByteArray), (∀ q ∈ Q, P q) → (∀ q ∈ ps, P q) → ∀ q ∈ (gatherP m Q nx ps).1, P q
  | [], Q, nx, h, _ => h
  | p :: ps, Q, nx, h, h2 => by
    rw [gatherP]
    split
    · exact h
    · exact gatherP_all ps (Q ++ [p]) nx (fun q hq => by
        rcases List.mem_append.1 hq with hq | hq
        · exact h q hq
        · simp at hq; subst hq; exact h2 q (by simp)) (fun q hq => h2 q (by simp [hq]))

theorem throughS_all {H : Int → Bool → Option NodeS} {P : ByteArray × ByteArray → Prop} (hH : ∀ b r (n : NodeS), H b r = some n → n.1 = true → ∀ q ∈ n.2.1.zip n.2.2.1, P q) (lo : ByteArray) (m : Nat) : ∀ (k : Nat) (s : ScanS) (block : Int) (low high : ByteArray), (∀ q ∈ s.pairs, P q) → ∀ q ∈ (throughS H lo m k s block low high).2.pairs, P q
  | 0, s, _, _, _, h => h
  | k + 1, s, block, low, high, h => by
    rw [throughS]
    split
    · exact h
    · rename_i n hn
      split
      · rename_i hl
        exact gatherP_all _ _ _ h (fun q hq => hH _ _ n (visitS_some hn).1 hl q (List.mem_of_mem_drop hq))
      · have fold : ∀ (l : List (Int × ByteArray × ByteArray)) (r : Int × ScanS), (∀ q ∈ r.2.pairs, P q) → ∀ q ∈ (l.foldl (fun r x => if r.1 = 0 ∧ r.2.next.size = 0 then throughS H lo m k r.2 x.1 x.2.1 x.2.2 else r) r).2.pairs, P q := by
          intro l
          induction l with
          | nil => exact fun r hr => hr
          | cons x l ih =>
            intro r hr
            rw [List.foldl_cons]
            refine ih _ ?_
            split
            · exact throughS_all hH lo m k r.2 _ _ _ hr
            · exact hr
        exact fold _ _ h

/-- How Scan answers. -/
def ScanC (right : Bool) (lo : ByteArray) (most : Int) (t : TreeS) (l : List (ByteArray × ByteArray)) (nx : ByteArray) (e : Int) : Prop :=
  if right = true ∧ lo.size ≤ 32 ∧ 0 ≤ most ∧ most ≤ 256 then
    (if t.bad = true then (e = 81 ∧ l = [] ∧ nx = ⟨#[]⟩) ∨ (e = 0 ∧ ∃ X, Rising X ∧ (∀ p ∈ X, keyIn p.1 ∧ ltB p.1 lo = false) ∧ l = X.take most.toNat ∧ nx = nextK most.toNat X)
     else e = 0 ∧ l = scanL t.pairs lo most.toNat ∧ nx = scanK t.pairs lo most.toNat)
  else e = 1 ∧ l = [] ∧ nx = ⟨#[]⟩
end Plain
open Go.RowKit Plain Anylast
set_option linter.unusedVariables false

/-- What is told of what was gone through. -/
theorem scanC_through {ns : List Bool} {ps : List ByteArray} {root gen : Int} (lo : ByteArray) (m : Nat) (hroot : root ≠ 0) (h1 : lo.size ≤ 32) (h2 : m ≤ 256) :
    ((throughS (holdsS ns ps gen) lo m 8 ⟨[], ⟨#[]⟩, 0⟩ root ⟨#[]⟩ ⟨#[]⟩).1 = 81 → ScanC true lo m (treeS ns ps root gen) [] ⟨#[]⟩ 81) ∧
      ((throughS (holdsS ns ps gen) lo m 8 ⟨[], ⟨#[]⟩, 0⟩ root ⟨#[]⟩ ⟨#[]⟩).1 = 81 ∨ (throughS (holdsS ns ps gen) lo m 8 ⟨[], ⟨#[]⟩, 0⟩ root ⟨#[]⟩ ⟨#[]⟩).1 = 0 ∧ ScanC true lo m (treeS ns ps root gen) (throughS (holdsS ns ps gen) lo m 8 ⟨[], ⟨#[]⟩, 0⟩ root ⟨#[]⟩ ⟨#[]⟩).2.pairs (throughS (holdsS ns ps gen) lo m 8 ⟨[], ⟨#[]⟩, 0⟩ root ⟨#[]⟩ ⟨#[]⟩).2.next 0) := by
  have ht : treeS ns ps root gen = belowS (holdsS ns ps gen) 8 TreeS.none root ⟨#[]⟩ ⟨#[]⟩ := by unfold treeS; rw [if_neg hroot]
  have hc : (true = true ∧ lo.size ≤ 32 ∧ (0 : Int) ≤ (m : Int) ∧ (m : Int) ≤ 256) := ⟨rfl, h1, by omega, by omega⟩
  have hz : (⟨([] : List (ByteArray × ByteArray)).take m, nextK m [], 0⟩ : ScanS) = ⟨[], ⟨#[]⟩, 0⟩ := by rw [List.take_nil, nextK_few (Nat.zero_le _)]
  unfold ScanC
  rw [if_pos hc, if_pos hc, Int.toNat_natCast]
  cases hb : (treeS ns ps root gen).bad with
  | false =>
    rw [ht] at hb
    obtain ⟨_, _, _, Q, hQ, hp⟩ := below_deep holds_ing 8 (Nat.le_refl _) TreeS.none root ⟨#[]⟩ ⟨#[]⟩ hb
    obtain ⟨lv', _, e⟩ := throughS_sub holds_ing holds_keyed lo m hQ [] 0 (Nat.zero_le _) (fun p hp => by simp at hp) (.inl rfl)
    have e' : throughS (holdsS ns ps gen) lo m 8 ⟨[], ⟨#[]⟩, 0⟩ root ⟨#[]⟩ ⟨#[]⟩ = (0, ⟨(fromP Q lo).take m, nextK m (fromP Q lo), lv'⟩) := by rw [hz] at e; exact e
    rw [e']
    refine ⟨fun h => (show False from absurd (show (0 : Int) = 81 from h) (by decide)).elim, .inr ⟨rfl, ?_⟩⟩
    rw [if_neg (by decide), ht, hp]
    exact ⟨rfl, rfl, rfl⟩
  | true =>
    rw [if_pos rfl, if_pos rfl]
    refine ⟨fun _ => .inl ⟨rfl, rfl, rfl⟩, ?_⟩
    rcases throughS_any (H := holdsS ns ps gen) holds_ing lo m 8 root ⟨#[]⟩ ⟨#[]⟩ [] 0 (Nat.zero_le _) (fun p hp => by simp at hp) with e | ⟨X, lv', e, hX⟩
    · rw [hz] at e; exact .inl e
    · right
      have e' : throughS (holdsS ns ps gen) lo m 8 ⟨[], ⟨#[]⟩, 0⟩ root ⟨#[]⟩ ⟨#[]⟩ = (0, ⟨X.take m, nextK m X, lv'⟩) := by rw [hz] at e; exact e
      rw [e']
      exact ⟨rfl, .inr ⟨rfl, X, hX.1, fun p hp => ⟨(hX.2 p hp).1.2, (hX.2 p hp).2⟩, rfl, rfl⟩⟩

theorem through_any (w : World) (h B : Nat) (a a' b : Option Addr) (n c n' c' p f : Nat) (ns : List Bool) (ps : List ByteArray) (root gen : Int) (lo : ByteArray) (m : Nat) (hn' : n' = ns.length) (hp : p = ps.length) (hpn : p = n') (hwh : w.heap.size ≤ h) (hB' : IsB w a' c' ns) (hP : IsS w b f ps) (hm : m ≤ 256) : ∀ (k : Nat), k ≤ 8 →
    ThroughAt w h B (.slice a n c) (.slice a' n' c') (.slice b p f) (.int .i64 root) (.int .i64 gen) (holdsS ns ps gen) lo m k
  | 0, hk => through_step w h B a a' b n c n' c' p f ns ps root gen lo m hn' hp hpn hwh hB' hP hm 0 hk (fun k' e => by cases e)
  | k + 1, hk => through_step w h B a a' b n c n' c' p f ns ps root gen lo m hn' hp hpn hwh hB' hP hm (k + 1) hk (fun k' e => by cases e; exact through_any w h B a a' b n c n' c' p f ns ps root gen lo m hn' hp hpn hwh hB' hP hm k (by omega))

theorem holds_small {ns : List Bool} {ps : List ByteArray} {gen : Int} : ∀ b r (n : NodeS), holdsS ns ps gen b r = some n → n.1 = true → ∀ q ∈ n.2.1.zip n.2.2.1, q.1.size ≤ maxLen ∧ q.2.size ≤ maxLen := by
  intro b r n hn hl q hq
  have hs := (rightN_iff.1 (holds_right hn)).1
  obtain ⟨_, hk, _, hv, _, _⟩ := standsN_iff.1 hs
  have h1 := (hk _ (List.of_mem_zip hq).1).2
  have h2 := hv _ (List.of_mem_zip hq).2
  exact ⟨Nat.le_trans h1 (by decide), Nat.le_trans h2 (by decide)⟩

theorem scanAt_new (w : World) (v0 v1 v2 v3 v4 : Value) (lo : ByteArray) (m : Nat) (t : TypeId) : ScanAt (w.alloc (.cells #[v0, v1, v2, v3, v4, .int .i64 0, .string lo, .int .i64 m, .slice none 0 0, .string ⟨#[]⟩] t)) w.heap.size (w.heap.size + 1) v0 v1 v2 v3 v4 lo m nilV ⟨[], ⟨#[]⟩, 0⟩ := by
  refine ⟨⟨⟨World.cell?_alloc_at _ _ _ _ rfl, World.cell?_alloc_at _ _ _ _ rfl, World.cell?_alloc_at _ _ _ _ rfl, World.cell?_alloc_at _ _ _ _ rfl, World.cell?_alloc_at _ _ _ _ rfl⟩, World.cell?_alloc_at _ _ _ _ rfl, ?_⟩, World.cell?_alloc_at _ _ _ _ rfl, World.cell?_alloc_at _ _ _ _ rfl, World.cell?_alloc_at _ _ _ _ rfl, World.cell?_alloc_at _ _ _ _ rfl, ?_, ?_, ⟨rfl, .inl ⟨rfl, rfl⟩⟩, by omega, by simp⟩
  · exact (World.frozen?_alloc_mark w _ _ _ _ 5).trans (by simp)
  · exact (World.frozen?_alloc_mark w _ _ _ _ 8).trans (by simp)
  · exact (World.frozen?_alloc_mark w _ _ _ _ 9).trans (by simp)


set_option maxRecDepth 20000 in
set_option maxHeartbeats 4000000 in
/-- SCAN. -/
theorem lookScan_any (a a' b : Option Addr) (n c n' c' p f : Nat) (bs ns : List Bool) (ps : List ByteArray) (root gen : Int) (lo : ByteArray) (most : Int) (w : World) (hn : n = bs.length) (hn' : n' = ns.length) (hp : p = ps.length) (hB : IsB w a c bs) (hB' : IsB w a' c' ns) (hP : IsS w b f ps) (hlo : lo.size ≤ maxLen) :
    Calls Try.prog 18 #[.agg #[.slice a n c, .slice a' n' c', .slice b p f, .int .i64 root, .int .i64 gen], .string lo, .int .i64 most] w fun x w' => ∃ l nx e q N d, x = .returned (.tuple #[.slice q N d, .string nx, .int .i64 e]) ∧ N = l.length ∧ IsQ w' q d l ∧ From w.heap.size q ∧ ScanC (rightW bs ns ps root gen) lo most (treeS ns ps root gen) l nx e ∧ Below w.heap.size w w' := by
  obtain ⟨W, hW⟩ : ∃ W, W = w.alloc (.cells #[.slice a n c, .slice a' n' c', .slice b p f, .int .i64 root, .int .i64 gen] 27) := ⟨_, rfl⟩
  have HB : Below w.heap.size w W := by rw [hW]; exact (Below.refl _ _).alloc (Nat.le_refl _) _
  have BW : WoodBox W w.heap.size (.slice a n c) (.slice a' n' c') (.slice b p f) (.int .i64 root) (.int .i64 gen) := by rw [hW]; exact woodBox_new _ _ _ _ _ _ _ rfl
  have cR := lookRight_any a a' b n c n' c' p f bs ns ps root gen W hn hn' hp (hB.below HB) (hB'.below HB) (hP.below HB)
  obtain ⟨x0, x1, x2, x3, x4⟩ := id (hW ▸ BW)
  have mk : lo.size ≤ 9223372036854775807 := hlo
  obtain ⟨r, hr⟩ : ∃ r, r = rightW bs ns ps root gen := ⟨_, rfl⟩
  rw [← hr] at cR ⊢
  have HG : Hid (∀ {r : Bool}, ¬ (r = true ∧ lo.size ≤ 32 ∧ 0 ≤ most ∧ most ≤ 256) → ScanC r lo most (treeS ns ps root gen) [] ⟨#[]⟩ 1) := fun {r} h => by
    unfold ScanC
    rw [if_neg h]
    exact ⟨rfl, rfl, rfl⟩
  cases r with
  | false =>
    clear hn hn' hp hB hB' hP hr
    go_enter Try.func18, Try.ntmps18
    go_wp2_with (
      (go_at_call 12; rw [← hW]; refine cR.mono ?_; rintro y w1 ⟨rfl, hb⟩; replace HB := Below.tr HB hb; replace BW := BW.below hb; clear x0 x1 x2 x3 x4; obtain ⟨x0, x1, x2, x3, x4⟩ := id BW; clear hb))
    refine bodyPost_ret (v := .tuple #[.slice none 0 0, .string ⟨#[]⟩, .int .i64 1]) (by simp [results, Try.results18, go_sem]) rfl ?_
    exact ⟨[], ⟨#[]⟩, 1, none, 0, 0, rfl, rfl, isQ_nil _, from_nil _, HG.out (fun h => by cases h.1), HB⟩
  | true =>
    by_cases hk2 : lo.size ≤ 32
    · have hk2' : ¬ (32 : Int) < lo.size := by omega
      by_cases hm0 : 0 ≤ most
      · have hm0' : ¬ most < 0 := by omega
        by_cases hm2 : most ≤ 256
        · have hm2' : ¬ (256 : Int) < most := by omega
          obtain ⟨m, rfl⟩ : ∃ m : Nat, most = m := ⟨most.toNat, by omega⟩
          by_cases hroot : root = 0
          · have hroot' : (root == 0) = true := by simpa using hroot
            have HF : Hid (ScanC true lo m (treeS ns ps root gen) [] ⟨#[]⟩ 0) := by
              show ScanC _ _ _ _ _ _ _
              unfold ScanC treeS
              rw [if_pos ⟨rfl, hk2, hm0, hm2⟩, if_pos hroot, if_neg (by decide)]
              refine ⟨rfl, ?_, ?_⟩
              · show [] = ([] : List (ByteArray × ByteArray)).take _
                simp
              · rfl
            clear hn hn' hp hB hB' hP hr hroot
            go_enter Try.func18, Try.ntmps18
            go_wp2_with (
              (go_at_call 12; rw [← hW]; refine cR.mono ?_; rintro y w1 ⟨rfl, hb⟩; replace HB := Below.tr HB hb; replace BW := BW.below hb; clear x0 x1 x2 x3 x4; obtain ⟨x0, x1, x2, x3, x4⟩ := id BW; clear hb))
            refine bodyPost_ret (v := .tuple #[.slice none 0 0, .string ⟨#[]⟩, .int .i64 0]) (by simp [results, Try.results18, go_sem]) rfl ?_
            exact ⟨[], ⟨#[]⟩, 0, none, 0, 0, rfl, rfl, isQ_nil _, from_nil _, HF.out, HB⟩
          · have hroot' : (root == 0) = false := by simpa using hroot
            have hpn : p = n' := by rw [hp, hn']; exact rightW_len hr.symm
            have hm3 : m ≤ 256 := by omega
            have hS := scanC_through (ns := ns) (ps := ps) (gen := gen) lo m hroot hk2 hm3
            have hA := throughS_all (P := fun q => q.1.size ≤ maxLen ∧ q.2.size ≤ maxLen) (H := holdsS ns ps gen) holds_small lo m 8 ⟨[], ⟨#[]⟩, 0⟩ root ⟨#[]⟩ ⟨#[]⟩ (fun q hq => by simp at hq)
            have cT : ∀ (U : World), Below w.heap.size w U → WoodBox U w.heap.size (.slice a n c) (.slice a' n' c') (.slice b p f) (.int .i64 root) (.int .i64 gen) → True := fun _ _ _ => trivial
            have cP : ∀ (h : Nat) (V : World), w.heap.size ≤ h → Below w.heap.size w V → ScanAt V h (h + 1) (.slice a n c) (.slice a' n' c') (.slice b p f) (.int .i64 root) (.int .i64 gen) lo m nilV ⟨[], ⟨#[]⟩, 0⟩ → Calls Try.prog 33 #[.pointer (some ⟨h, 0, none⟩), .agg #[.int .i64 root, .int .i64 1, .string ⟨#[]⟩, .string ⟨#[]⟩]] V fun e V' => e = .returned (.int .i64 (throughS (holdsS ns ps gen) lo m 8 ⟨[], ⟨#[]⟩, 0⟩ root ⟨#[]⟩ ⟨#[]⟩).1) ∧ ∃ u', ScanAt V' h (h + 1) (.slice a n c) (.slice a' n' c') (.slice b p f) (.int .i64 root) (.int .i64 gen) lo m u' (throughS (holdsS ns ps gen) lo m 8 ⟨[], ⟨#[]⟩, 0⟩ root ⟨#[]⟩ ⟨#[]⟩).2 ∧ Grows h nilV nilV V u' nilV V' :=
              fun h V hh hV hD => through_any w h (h + 1) a a' b n c n' c' p f ns ps root gen lo m hn' hp hpn hh hB' hP hm3 8 (Nat.le_refl _) V nilV ⟨[], ⟨#[]⟩, 0⟩ root 1 ⟨#[]⟩ ⟨#[]⟩ hV hD (Nat.zero_le _) (by decide)
            obtain ⟨⟨e, s⟩, hes⟩ : ∃ x, x = throughS (holdsS ns ps gen) lo m 8 ⟨[], ⟨#[]⟩, 0⟩ root ⟨#[]⟩ ⟨#[]⟩ := ⟨_, rfl⟩
            rw [← hes] at hS hA cP
            have HA : Hid (∀ q ∈ s.pairs, q.1.size ≤ maxLen ∧ q.2.size ≤ maxLen) := hA
            clear hn hn' hp hB hB' hP hr hroot hpn hes hA cT hm3
            have hsz := HB.size
            by_cases he : e = 81
            · have HF : Hid (ScanC true lo m (treeS ns ps root gen) [] ⟨#[]⟩ 81) := hS.1 he
              subst he
              clear hS
              go_enter Try.func18, Try.ntmps18
              go_wp2_with (first
                | (go_at_call 12; rw [← hW]; refine cR.mono ?_; rintro y w1 ⟨rfl, hb⟩; replace HB := Below.tr HB hb; replace BW := BW.below hb; clear x0 x1 x2 x3 x4; obtain ⟨x0, x1, x2, x3, x4⟩ := id BW; clear hb)
                | (go_at_call 34; have hA : Below w1.heap.size w1 (w1.alloc (.cells #[.slice a n c, .slice a' n' c', .slice b p f, .int .i64 root, .int .i64 gen, .int .i64 0, .string lo, .int .i64 m, .slice none 0 0, .string ⟨#[]⟩] 75)) := (Below.refl _ _).alloc (Nat.le_refl _) _; have D := scanAt_new w1 (.slice a n c) (.slice a' n' c') (.slice b p f) (.int .i64 root) (.int .i64 gen) lo m 75; refine (top_any _ _ _ _ _ _ root D.wb.1).mono ?_; rintro y w2 ⟨rfl, hb⟩; have hw1 := HB.size; replace HB := Below.tr (Below.tr HB hA) hb; replace D := D.below hb; clear x0 x1 x2 x3 x4 hA hb BW)
                | (go_at_call 33; refine (cP _ _ hw1 HB D).mono ?_; rintro y w3 ⟨rfl, u', D', G'⟩; replace HB := Grows.under D G' HB hw1))
              refine bodyPost_ret (v := .tuple #[.slice none 0 0, .string ⟨#[]⟩, .int .i64 81]) (by simp [results, Try.results18, go_sem]) rfl ?_
              exact ⟨[], ⟨#[]⟩, 81, none, 0, 0, rfl, rfl, isQ_nil _, from_nil _, HF.out, HB⟩
            · obtain ⟨he0, hF⟩ := hS.2.resolve_left he
              have HF : Hid (ScanC true lo m (treeS ns ps root gen) s.pairs s.next 0) := hF
              replace he0 : e = 0 := he0
              subst he0
              clear hS hF he
              go_enter Try.func18, Try.ntmps18
              go_wp2_with (first
                | (go_at_call 12; rw [← hW]; refine cR.mono ?_; rintro y w1 ⟨rfl, hb⟩; replace HB := Below.tr HB hb; replace BW := BW.below hb; clear x0 x1 x2 x3 x4; obtain ⟨x0, x1, x2, x3, x4⟩ := id BW; clear hb)
                | (go_at_call 34; have hA : Below w1.heap.size w1 (w1.alloc (.cells #[.slice a n c, .slice a' n' c', .slice b p f, .int .i64 root, .int .i64 gen, .int .i64 0, .string lo, .int .i64 m, .slice none 0 0, .string ⟨#[]⟩] 75)) := (Below.refl _ _).alloc (Nat.le_refl _) _; have D := scanAt_new w1 (.slice a n c) (.slice a' n' c') (.slice b p f) (.int .i64 root) (.int .i64 gen) lo m 75; refine (top_any _ _ _ _ _ _ root D.wb.1).mono ?_; rintro y w2 ⟨rfl, hb⟩; have hw1 := HB.size; replace HB := Below.tr (Below.tr HB hA) hb; replace D := D.below hb; clear x0 x1 x2 x3 x4 hA hb BW)
                | (go_at_call 33; refine (cP _ _ hw1 HB D).mono ?_; rintro y w3 ⟨rfl, u', D', G'⟩; replace HB := Grows.under D G' HB hw1; have q8 := D'.c8; have q9 := D'.c9))
              go_region
              go_wp2
              have HX : Below w3.heap.size w3 w3.drew := (Below.refl _ _).drew
              generalize w3.drew = X at HX ⊢
              have D2 := D'.below HX
              obtain ⟨q, d, rfl, hQ, hFr⟩ := owned_isQ D2.row rfl HA.out
              refine bodyPost_ret (v := .tuple #[.slice q s.pairs.length d, .string s.next, .int .i64 0]) (by simp [results, Try.results18, go_sem]) rfl ?_
              exact ⟨s.pairs, s.next, 0, q, s.pairs.length, d, rfl, rfl, hQ, hFr.mono (by omega), HF.out, Below.tr HB HX⟩
        · have hm2' : (256 : Int) < most := by omega
          clear hn hn' hp hB hB' hP hr
          go_enter Try.func18, Try.ntmps18
          go_wp2_with (
            (go_at_call 12; rw [← hW]; refine cR.mono ?_; rintro y w1 ⟨rfl, hb⟩; replace HB := Below.tr HB hb; replace BW := BW.below hb; clear x0 x1 x2 x3 x4; obtain ⟨x0, x1, x2, x3, x4⟩ := id BW; clear hb))
          refine bodyPost_ret (v := .tuple #[.slice none 0 0, .string ⟨#[]⟩, .int .i64 1]) (by simp [results, Try.results18, go_sem]) rfl ?_
          exact ⟨[], ⟨#[]⟩, 1, none, 0, 0, rfl, rfl, isQ_nil _, from_nil _, HG.out (fun h => by have := h.2.2.2; omega), HB⟩
      · have hm0' : most < 0 := by omega
        clear hn hn' hp hB hB' hP hr
        go_enter Try.func18, Try.ntmps18
        go_wp2_with (
          (go_at_call 12; rw [← hW]; refine cR.mono ?_; rintro y w1 ⟨rfl, hb⟩; replace HB := Below.tr HB hb; replace BW := BW.below hb; clear x0 x1 x2 x3 x4; obtain ⟨x0, x1, x2, x3, x4⟩ := id BW; clear hb))
        refine bodyPost_ret (v := .tuple #[.slice none 0 0, .string ⟨#[]⟩, .int .i64 1]) (by simp [results, Try.results18, go_sem]) rfl ?_
        exact ⟨[], ⟨#[]⟩, 1, none, 0, 0, rfl, rfl, isQ_nil _, from_nil _, HG.out (fun h => by have := h.2.2.1; omega), HB⟩
    · have hk2' : (32 : Int) < lo.size := by omega
      clear hn hn' hp hB hB' hP hr
      go_enter Try.func18, Try.ntmps18
      go_wp2_with (
        (go_at_call 12; rw [← hW]; refine cR.mono ?_; rintro y w1 ⟨rfl, hb⟩; replace HB := Below.tr HB hb; replace BW := BW.below hb; clear x0 x1 x2 x3 x4; obtain ⟨x0, x1, x2, x3, x4⟩ := id BW; clear hb))
      refine bodyPost_ret (v := .tuple #[.slice none 0 0, .string ⟨#[]⟩, .int .i64 1]) (by simp [results, Try.results18, go_sem]) rfl ?_
      exact ⟨[], ⟨#[]⟩, 1, none, 0, 0, rfl, rfl, isQ_nil _, from_nil _, HG.out (fun h => by have := h.2.1; omega), HB⟩

end Go.Proofs.Ytmldemgciidpbaa

namespace Go.Proofs.Ytmldemgciidpbaa
open Go.RowKit Plain Anylast
set_option linter.unusedVariables false

theorem owns_none (w : World) : (w.alloc (.cells #[] 55)).ownsRow w.heap.size 55 2 (.slice (some ⟨w.heap.size, 0, none⟩) 0 0) 0 (cellsQ []) :=
  ⟨rfl, .inr ⟨w.heap.size, 0, #[], rfl, Nat.le_refl _, heap_new w _, Nat.le_refl _, Nat.zero_le _, rfl, rfl⟩⟩

set_option maxRecDepth 20000 in
set_option maxHeartbeats 2000000 in
/-- SCAN, of pairs. -/
theorem refScanP_any (a : Option Addr) (c n m : Nat) (ps : List (ByteArray × ByteArray)) (low : ByteArray) (w : World) (hn : n = ps.length) (hQ : IsQ w a c ps) (hm : n ≤ 1000000000) :
    Calls Try.prog 19 #[.slice a n c, .string low, .int .i64 m] w fun e w' => ∃ a' k c', e = .returned (.tuple #[.slice a' k c', .string (scanK ps low m)]) ∧ k = (scanL ps low m).length ∧ IsQ w' a' c' (scanL ps low m) ∧ From w.heap.size a' ∧ Below w.heap.size w w' := by
  have EN : Hid (n = ps.length) := hn
  have RQ : Hid (IsQ w a c ps) := hQ
  have OK : Hid (∀ l : List (ByteArray × ByteArray), (∀ p ∈ l, p ∈ ps) → ∀ p ∈ l, p.1.size ≤ maxLen ∧ p.2.size ≤ maxLen) := fun l hl p hp => by
    obtain ⟨j, hj⟩ := List.mem_iff_getElem?.1 (hl p hp)
    obtain ⟨_, _, _, _, _, _, h1, h2⟩ := hQ.2.2 j p hj
    exact ⟨h1, h2⟩
  clear hn hQ
  go_enter Try.func19, Try.ntmps19
  go_wp2
  have hA := (Below.refl w.heap.size w).alloc (Nat.le_refl _) (.cells #[] 55)
  go_loopw [8, 14] (fun ov v wr => ∃ j q g cap : Nat, j ≤ n ∧ v = .int .i64 j ∧ ov = .slice (some ⟨g, 0, none⟩) q cap ∧ q ≤ j ∧ q = (fromP (ps.take j) low).length ∧ q ≤ m ∧ wr.ownsRow w.heap.size 55 2 (.slice (some ⟨g, 0, none⟩) q cap) q (cellsQ (fromP (ps.take j) low)) ∧ Below w.heap.size w wr) (fun _ v _ => n - (intOf v).toNat)
  case atStart => exact ⟨0, 0, w.heap.size, 0, by omega, rfl, rfl, by omega, rfl, by omega, owns_none w, hA⟩
  case round =>
    clear hA
    obtain ⟨j, q, g, cap, hj, rfl, rfl, hqj, hq, hqm, hown, HB⟩ := hrel
    obtain ⟨L, hL⟩ : ∃ L, L = fromP (ps.take j) low := ⟨_, rfl⟩
    rw [← hL] at hq hown
    have HL : Hid (L = fromP (ps.take j) low) := hL
    have HQ : Hid (q = L.length) := hq
    clear hL hq
    have hin : Hid (∀ p ∈ L, p ∈ ps) := by rw [HL.out]; exact fun p hp => List.mem_of_mem_take (List.mem_filter.1 hp).1
    by_cases hlt : j < n
    · have hlt' : (j : Int) < n := by omega
      obtain ⟨⟨k, v⟩, hp⟩ : ∃ x, Hid (ps[j]? = some x) := get_some (by rw [← EN.out]; exact hlt)
      obtain ⟨b, o, rfl, -, hc0, hc1, -, -⟩ := RQ.out.2.2 j (k, v) hp.out
      have z0 := cell_below HB hc0
      have z1 := cell_below HB hc1
      clear hc0 hc1
      have hA : Below wr.heap.size wr (wr.alloc (.cells #[.string k, .string v] 55)) := (Below.refl _ _).alloc (Nat.le_refl _) _
      have HB1 := Below.tr HB hA
      have hown1 := hown.alloc (.cells #[.string k, .string v] 55)
      have HF := fromP_more (low := low) hp.out
      cases hlk : ltB k low with
      | true =>
        have hlk' : Op.bytesLess k.toList low.toList = true := hlk
        replace HF : Hid (fromP (ps.take (j + 1)) low = L) := by show _ = _; rw [HF, HL.out]; simp [hlk]
        have hfin : Hid ((wr.alloc (.cells #[.string k, .string v] 55)).ownsRow w.heap.size 55 2 (.slice (some ⟨g, 0, none⟩) q cap) q (cellsQ L) ∧ Below w.heap.size w (wr.alloc (.cells #[.string k, .string v] 55))) := ⟨hown1, HB1⟩
        clear hown hown1 HB HB1 hA hlk
        go_wp2
        go_roundw
        case rel => exact ⟨j + 1, q, g, cap, by omega, by go_num, rfl, by omega, by rw [HF.out]; exact HQ.out, hqm, by rw [HF.out]; exact hfin.out.1, hfin.out.2⟩
        case measure => simp [intOf]; omega
      | false =>
        have hlk' : Op.bytesLess k.toList low.toList = false := hlk
        replace HF : Hid (fromP (ps.take (j + 1)) low = L ++ [(k, v)]) := by show _ = _; rw [HF, HL.out]; simp [hlk]
        by_cases hqe : q = m
        · subst hqe
          have hcut : fromP ps low = L ++ (k, v) :: fromP (ps.drop (j + 1)) low := by
            rw [fromP_cut hp.out, ← HL.out]
            congr 1
            unfold fromP
            rw [List.filter_cons, if_pos (by simp [hlk])]
          have hs1 : Hid (scanL ps low q = L) := by show _ = _; unfold scanL; rw [hcut, HQ.out, List.take_left']; rfl
          have hs2 : Hid (scanK ps low q = k) := by show _ = _; unfold scanK; rw [hcut, HQ.out, List.getElem?_append_right (Nat.le_refl _)]; simp
          have hfin : Hid ((wr.alloc (.cells #[.string k, .string v] 55)).ownsRow w.heap.size 55 2 (.slice (some ⟨g, 0, none⟩) q cap) q (cellsQ L) ∧ Below w.heap.size w (wr.alloc (.cells #[.string k, .string v] 55))) := ⟨hown1, HB1⟩
          clear hown hown1 HB HB1 hA hlk hcut HF
          go_wp2
          go_region
          go_wp2
          go_ret2
          obtain ⟨a', c', e, hI, hF⟩ := owned_isQ hfin.out.1 HQ.out (OK.out L hin.out)
          cases e
          exact ⟨_, q, _, by rw [hs2.out]; rfl, by rw [hs1.out]; exact HQ.out, by rw [hs1.out]; exact hI.below (Below.refl _ _).drew, hF, hfin.out.2.drew⟩
        · have hqe' : ((q : Int) == m) = false := by simp; omega
          obtain ⟨g2, cap2, U, hrun, hown2, hgr, hat, hge, hlt2⟩ := push_Q (wr.alloc (.cells #[.string k, .string v] 55)) w.heap.size (.slice (some ⟨g, 0, none⟩) q cap) q L (k, v) hown1 (by have := HB1.size; exact this) (by omega)
          have T1 : Turns (fun k => w.heap.size ≤ k) (wr.alloc (.cells #[.string k, .string v] 55)) U := ((Turns.refl _ _).alloc _).grown hgr (fun k hk => (hown1.lt k hk).1)
          have HB2 := Below.turns HB1 T1 (fun k hk => hk)
          have hfin : Hid (U.ownsRow w.heap.size 55 2 (.slice (some ⟨g2, 0, none⟩) (q + 1) cap2) (q + 1) (cellsQ (L ++ [(k, v)])) ∧ Below w.heap.size w U) := ⟨hown2, HB2⟩
          simp only [World.size_alloc] at hrun
          clear hown hown1 HB HB1 HB2 T1 hA hlk hown2 hgr hat hge hlt2
          go_wp2_with (at_builtin; refine Lib.wpList_append_run _ rfl _ _ _ _ rfl _ _ rfl rfl _ _ hrun ?_)
          go_roundw
          case rel => exact ⟨j + 1, q + 1, g2, cap2, by omega, by go_num, rfl, by omega, by rw [HF.out, List.length_append, ← HQ.out]; rfl, by omega, by rw [HF.out]; exact hfin.out.1, hfin.out.2⟩
          case measure => simp [intOf]; omega
    · obtain rfl : n = j := by omega
      have hj0 : ¬ (n : Int) < n := by omega
      have hall : L = fromP ps low := by rw [HL.out, EN.out, List.take_length]
      have hs1 : Hid (scanL ps low m = L) := by show _ = _; unfold scanL; rw [← hall]; exact List.take_of_length_le (by rw [← HQ.out]; exact hqm)
      have hs2 : Hid (scanK ps low m = ⟨#[]⟩) := by show _ = _; unfold scanK; rw [← hall, List.getElem?_eq_none (by rw [← HQ.out]; exact hqm)]; rfl
      have hfin : Hid (wr.ownsRow w.heap.size 55 2 (.slice (some ⟨g, 0, none⟩) q cap) q (cellsQ L) ∧ Below w.heap.size w wr) := ⟨hown, HB⟩
      clear hown HB hall
      go_wp2
      go_ret2
      obtain ⟨a', c', e, hI, hF⟩ := owned_isQ hfin.out.1 HQ.out (OK.out L hin.out)
      cases e
      exact ⟨_, q, _, by rw [hs2.out]; rfl, by rw [hs1.out]; exact HQ.out, by rw [hs1.out]; exact hI, hF, hfin.out.2⟩

end Go.Proofs.Ytmldemgciidpbaa

namespace Go.Proofs.Ytmldemgciidpbaa
open Go.RowKit Plain Go.ChangeShapes Go.WideShapes
set_option linter.unusedVariables false

theorem array5 {α : Type} {cs : Array α} (h : cs.size = 5) : ∃ c0 c1 c2 c3 c4, cs = #[c0, c1, c2, c3, c4] := by
  rcases cs with ⟨l⟩
  match l, h with
  | [c0, c1, c2, c3, c4], _ => exact ⟨c0, c1, c2, c3, c4, rfl⟩

set_option maxRecDepth 20000 in
theorem open_wood {H : Type} {enc : TypeId × Value → H} {w : World} {r : Reach} {b0 : Nat} {v : Value} {d : DataW H} {p : List MemPlace}
    (hv : Value.okWide Try.prog w r b0 27 v) (h : DataW.Trod enc Try.prog w 0 (fun _ => true) true 27 v d p) :
    ∃ a c bs a' c' ns b f ps root gen, v = .agg #[.slice a bs.length c, .slice a' ns.length c', .slice b ps.length f, .int .i64 root, .int .i64 gen] ∧ IsB w a c bs ∧ IsB w a' c' ns ∧ IsS w b f ps ∧ (Lit.int .i64 root).wf = true ∧ (Lit.int .i64 gen).wf = true := by
  obtain ⟨cs, rfl, hsz⟩ := okWide_struct Try.underlying27 hv
  obtain ⟨c0, c1, c2, c3, c4, rfl⟩ := array5 (hsz.trans (by kernel_rfl))
  obtain ⟨fuel, hf⟩ := h
  obtain ⟨y0, y1, y2, y3, n, hx, _, h0, h1, h2, h3⟩ := Joins.trod_struct4 Try.underlying27 hf
  have s0 : Try.prog.cellsOf 24 = 2 := by kernel_rfl
  have s1 : Try.prog.cellsOf 25 = 1 := by kernel_rfl
  have s2 : Try.prog.cellsOf 3 = 1 := by kernel_rfl
  have s3 : Try.prog.cellsOf 22 = 1 := by kernel_rfl
  simp only [Value.cells, s0, s1, s2, List.drop_zero, List.drop_succ_cons, List.take_succ_cons, List.take_zero] at h0 h1 h2 h3
  obtain ⟨z0, z1, m, _, _, g0, g1⟩ := trod_struct2 Try.underlying24 h0
  simp only [s3, List.drop_zero, List.drop_succ_cons, List.take_succ_cons, List.take_zero] at g0 g1
  obtain ⟨a, c, bs, rfl, hB⟩ := open_B g0
  obtain ⟨a', c', ns, rfl, hB'⟩ := open_B g1
  obtain ⟨b, f, ps, rfl, hP⟩ := open_S h1
  obtain ⟨root, hr, _, wr⟩ := DataW.trod_int (k := .i64) Try.underlying3 h2
  obtain ⟨gen, hg, _, wg⟩ := DataW.trod_int (k := .i64) Try.underlying3 h3
  simp at hr hg
  subst hr hg
  exact ⟨a, c, bs, a', c', ns, b, f, ps, root, gen, rfl, hB, hB', hP, wr, wg⟩

end Go.Proofs.Ytmldemgciidpbaa

namespace Go.Proofs.Ytmldemgciidpbaa
open Go.RowKit Plain
set_option linter.unusedVariables false

section
variable {V : World} {h : Nat} {a : Option Addr} {n c : Nat} {a' : Option Addr} {n' c' : Nat} {b : Option Addr} {p f : Nat} {bs ns : List Bool} {ps : List ByteArray} {root gen : Int}

theorem small_in (x : WoodIn V h a n c a' n' c' b p f bs ns ps root gen) : Calls Try.prog 8 #[.agg #[.slice a n c, .slice a' n' c', .slice b p f, .int .i64 root, .int .i64 gen]] V fun e w' => e = .returned (.bool (decide (n' ≤ 300) && decide (p ≤ 300))) ∧ Below V.heap.size V w' :=
  small_any a a' b n c n' c' p f root gen V (by rw [x.2.2.1]; exact Nat.le_trans x.2.2.2.2.2.1.1 x.2.2.2.2.2.1.2.1) (by rw [x.2.2.2.1]; exact Nat.le_trans x.2.2.2.2.2.2.1 x.2.2.2.2.2.2.2.1)

theorem right_in (x : WoodIn V h a n c a' n' c' b p f bs ns ps root gen) : Calls Try.prog 11 #[.agg #[.slice a n c, .slice a' n' c', .slice b p f, .int .i64 root, .int .i64 gen]] V fun e w' => e = .returned (.bool (rightW bs ns ps root gen)) ∧ Below V.heap.size V w' :=
  refRightW_any a a' b n c n' c' p f bs ns ps root gen V x.2.1 x.2.2.1 x.2.2.2.1 x.2.2.2.2.1 x.2.2.2.2.2.1 x.2.2.2.2.2.2

/-- A tree, as the document's own Tree lays it. -/
theorem tree_in (x : WoodIn V h a n c a' n' c' b p f bs ns ps root gen) : Calls Try.prog 16 #[.agg #[.slice a n c, .slice a' n' c', .slice b p f, .int .i64 root, .int .i64 gen]] V fun x w' => ∃ q d u2, x = .returned (.pointer (some ⟨V.heap.size + 1, 0, none⟩)) ∧ Box4 w' (V.heap.size + 1) (.slice q (treeS ns ps root gen).pairs.length d) u2 (.int .i64 (treeS ns ps root gen).height) (.bool (treeS ns ps root gen).bad) ∧ IsQ w' q d (treeS ns ps root gen).pairs ∧ Below V.heap.size V w' := by
  refine (tree_any a a' b n c n' c' p f ns ps root gen V x.2.2.1 x.2.2.2.1 x.2.2.2.2.2.1 x.2.2.2.2.2.2).mono ?_
  rintro y w' ⟨u1, u2, rfl, T, hb⟩
  obtain ⟨q, d, rfl, hQ, -⟩ := owned_isQ T.r1 rfl tree_sized
  exact ⟨q, d, u2, rfl, T.box, hQ, hb⟩

theorem get_in (x : WoodIn V h a n c a' n' c' b p f bs ns ps root gen) (key : ByteArray) (hkey : key.size ≤ maxLen) : Calls Try.prog 15 #[.agg #[.slice a n c, .slice a' n' c', .slice b p f, .int .i64 root, .int .i64 gen], .string key] V fun x w' => ∃ v e, x = .returned (.tuple #[.string v, .int .i64 e]) ∧ GetC (rightW bs ns ps root gen) key (treeS ns ps root gen) v e ∧ Below V.heap.size V w' :=
  lookGet_any a a' b n c n' c' p f bs ns ps root gen key V x.2.1 x.2.2.1 x.2.2.2.1 x.2.2.2.2.1 x.2.2.2.2.2.1 x.2.2.2.2.2.2 hkey

theorem scan_in (x : WoodIn V h a n c a' n' c' b p f bs ns ps root gen) (lo : ByteArray) (most : Int) (hlo : lo.size ≤ maxLen) : Calls Try.prog 18 #[.agg #[.slice a n c, .slice a' n' c', .slice b p f, .int .i64 root, .int .i64 gen], .string lo, .int .i64 most] V fun x w' => ∃ l nx e q N d, x = .returned (.tuple #[.slice q N d, .string nx, .int .i64 e]) ∧ N = l.length ∧ IsQ w' q d l ∧ From V.heap.size q ∧ ScanC (rightW bs ns ps root gen) lo most (treeS ns ps root gen) l nx e ∧ Below V.heap.size V w' :=
  lookScan_any a a' b n c n' c' p f bs ns ps root gen lo most V x.2.1 x.2.2.1 x.2.2.2.1 x.2.2.2.2.1 x.2.2.2.2.2.1 x.2.2.2.2.2.2 hlo

/-- Of a tree. -/
theorem get_tree (x : WoodIn V h a n c a' n' c' b p f bs ns ps root gen) {P : List (ByteArray × ByteArray)} (hR : rightW bs ns ps root gen = true) (hb : (treeS ns ps root gen).bad = false) (hP : P = (treeS ns ps root gen).pairs) (key : ByteArray) (h1 : 1 ≤ key.size) (h2 : key.size ≤ 32) : Calls Try.prog 15 #[.agg #[.slice a n c, .slice a' n' c', .slice b p f, .int .i64 root, .int .i64 gen], .string key] V fun x w' => x = .returned (.tuple #[.string (getP P key).1, .int .i64 (getP P key).2]) ∧ Below V.heap.size V w' := by
  refine (get_in x key (Nat.le_trans h2 (by decide))).mono ?_
  rintro y w' ⟨v, e, rfl, hg, hbel⟩
  unfold GetC at hg
  rw [if_pos ⟨hR, h1, h2⟩, if_neg (by rw [hb]; decide), ← hP] at hg
  rw [← hg]
  exact ⟨rfl, hbel⟩

theorem scan_tree (x : WoodIn V h a n c a' n' c' b p f bs ns ps root gen) {P : List (ByteArray × ByteArray)} (hR : rightW bs ns ps root gen = true) (hb : (treeS ns ps root gen).bad = false) (hP : P = (treeS ns ps root gen).pairs) (lo : ByteArray) (m : Nat) (h1 : lo.size ≤ 32) (h2 : m ≤ 256) : Calls Try.prog 18 #[.agg #[.slice a n c, .slice a' n' c', .slice b p f, .int .i64 root, .int .i64 gen], .string lo, .int .i64 m] V fun x w' => ∃ q N d, x = .returned (.tuple #[.slice q N d, .string (scanK P lo m), .int .i64 0]) ∧ N = (scanL P lo m).length ∧ IsQ w' q d (scanL P lo m) ∧ From V.heap.size q ∧ Below V.heap.size V w' := by
  refine (scan_in x lo m (Nat.le_trans h1 (by decide))).mono ?_
  rintro y w' ⟨l, nx, e, q, N, d, rfl, hN, hQ, hF, hs, hbel⟩
  unfold ScanC at hs
  rw [if_pos ⟨hR, h1, by omega, by omega⟩, if_neg (by rw [hb]; decide), ← hP, Int.toNat_natCast] at hs
  obtain ⟨rfl, rfl, rfl⟩ := hs
  exact ⟨q, N, d, rfl, hN, hQ, hF, hbel⟩
end

theorem tree_facts {ns : List Bool} {ps : List ByteArray} {root gen : Int} (hb : (treeS ns ps root gen).bad = false) : Rising (treeS ns ps root gen).pairs ∧ ∀ q ∈ (treeS ns ps root gen).pairs, keyIn q.1 := by
  unfold treeS at hb ⊢
  split
  · exact ⟨List.Pairwise.nil, fun q hq => by simp [TreeS.none] at hq⟩
  · rename_i hr
    rw [if_neg hr] at hb
    obtain ⟨_, Q, hQ, hp⟩ := below_sub _ 8 TreeS.none root ⟨#[]⟩ ⟨#[]⟩ hb
    rw [hp]
    obtain ⟨h1, h2⟩ := sub_rising holds_ing hQ
    exact ⟨h1, fun q hq => (h2 q hq).2⟩

theorem tree_few {ns : List Bool} {ps : List ByteArray} {root gen : Int} (hn : ns.length ≤ 300) : (treeS ns ps root gen).pairs.length ≤ 2700 := by
  have hs : Sound ns.length (treeS ns ps root gen) := by
    unfold treeS
    split
    · exact sound_none _
    · refine sound_below (fun b r nd hh => ?_) 8 TreeS.none root ⟨#[]⟩ ⟨#[]⟩ (sound_none _)
      have h9 := (holds_len b r nd hh).1
      unfold holdsS at hh
      split at hh
      · rename_i hc; exact ⟨⟨by omega, hc.2.1⟩, h9⟩
      · cases hh
  have := nodup_le _ _ hs.1 hs.2.1
  have := hs.2.2
  omega

end Go.Proofs.Ytmldemgciidpbaa

/-
  The library's BinarySearch of texts; the program's own Find and Kid of nodes.
-/
import Derived.Test.YtmhnnfmggdohkaaNodeStand
import Derived.Test.YtmhnnfmggdohkaaNodeCut
namespace Go.Proofs.Ytmhnnfmggdohkaa
open Go.RowKit Plain
set_option linter.unusedVariables false

set_option maxHeartbeats 400000 in
theorem isNaN_any (s : ByteArray) (w : World) :
    Calls Try.prog 55 #[.string s] w fun e w' => e = .returned (.bool false) ∧ w = w' := by
  go_enter Try.func55, Try.ntmps55
  go_wp2
  go_ret
  exact ⟨ret_bool (by simp), rfl⟩

set_option maxHeartbeats 400000 in
theorem isNaN2_any (s : ByteArray) (w : World) :
    Calls Try.prog 64 #[.string s] w fun e w' => e = .returned (.bool false) ∧ w = w' := by
  go_enter Try.func64, Try.ntmps64
  go_wp2
  go_ret
  exact ⟨ret_bool (by simp), rfl⟩

set_option maxHeartbeats 400000 in
theorem less_any (s t : ByteArray) (w : World) :
    Calls Try.prog 54 #[.string s, .string t] w fun e w' => e = .returned (.bool (ltB s t)) ∧ w = w' := by
  go_enter Try.func54, Try.ntmps54
  go_wp2_with (go_at_call 64; refine (isNaN2_any _ _).mono ?_; rintro e w' ⟨rfl, rfl⟩)
  go_ret
  exact ⟨ret_bool rfl, rfl⟩

theorem isN_here {key x : ByteArray} {ks : List ByteArray} {j : Nat} (hf : findN key ks = j) (hx : ks[j]? = some x) : isN ks key = (x.toList == key.toList) := by
  rw [Bool.eq_iff_iff, isN_iff, hf, hx, str_beq]
  exact ⟨fun h => Option.some.inj h, fun h => by rw [h]⟩

theorem isN_off {key : ByteArray} {ks : List ByteArray} (hf : findN key ks = ks.length) : isN ks key = false := by
  rw [Bool.eq_false_iff]
  intro h
  rw [isN_iff, hf, List.getElem?_eq_none (Nat.le_refl _)] at h
  cases h

set_option maxRecDepth 20000 in
set_option maxHeartbeats 1000000 in
/-- BINARY SEARCH, of keys that rise. -/
theorem search_any (a : Option Addr) (c n : Nat) (ks : List ByteArray) (key : ByteArray) (w : World) (hn : n = ks.length) (hK : IsS w a c ks) (hr : risingK ks = true) (h9 : n ≤ 9) :
    Calls Try.prog 38 #[.slice a n c, .string key] w fun e w' => e = .returned (.tuple #[.int .i64 (findN key ks : Nat), .bool (isN ks key)]) ∧ w = w' := by
  have HK : Hid (IsS w a c ks) := hK
  have EK : Hid (n = ks.length) := hn
  have HR : Hid (risingK ks = true) := hr
  obtain ⟨f, hf⟩ : ∃ f, f = findN key ks := ⟨_, rfl⟩
  have HF : Hid (f = findN key ks) := hf
  have hfn : f ≤ n := by rw [hf, hn]; exact findN_le _ _
  obtain ⟨q, hq⟩ : ∃ q, q = isN ks key := ⟨_, rfl⟩
  have HQ : Hid (q = isN ks key) := hq
  rw [← hf, ← hq]
  clear hK hn hr hf hq
  go_enter Try.func38, Try.ntmps38
  go_wp2
  go_loop [7, 8] (fun u v => ∃ i j : Nat, u = .int .i64 i ∧ v = .int .i64 j ∧ i ≤ f ∧ f ≤ j ∧ j ≤ n) (fun u v => (intOf v).toNat - (intOf u).toNat)
  case atStart => exact ⟨0, n, rfl, rfl, by omega, by omega, by omega⟩
  case round =>
    obtain ⟨i, j, rfl, rfl, hif, hfj, hjn⟩ := hrel
    by_cases hlt : i < j
    · have hlt' : (i : Int) < j := by omega
      obtain ⟨h, hh⟩ : ∃ h, h = (i + j) / 2 := ⟨_, rfl⟩
      have hhi : i ≤ h := by omega
      have hhj : h < j := by omega
      have hhn : (h : Int) < n := by omega
      obtain ⟨x, hx⟩ : ∃ x, Hid (ks[h]? = some x) := ⟨_, List.getElem?_eq_getElem (by rw [← EK.out]; omega)⟩
      obtain ⟨b, o, rfl, hlb, hc, hxs⟩ := HK.out.2.2 h x hx.out
      have hmid : ((i : Int) + j) / 2 = (h : Int) := by omega
      clear hh
      cases hl : ltB x key with
      | true =>
        have hN : Hid (h < f) := by
          rw [HF.out]
          rcases Nat.lt_or_ge h (findN key ks) with g | g
          · exact g
          · rw [findN_behind HR.out hx.out g] at hl; cases hl
        have cL := less_any x key w
        rw [hl] at cL
        clear hl
        go_wp2_with (go_at_call 54; refine cL.mono ?_; rintro e w' ⟨rfl, rfl⟩)
        go_round
        case rel => exact ⟨h + 1, j, by go_num, rfl, hN.out, hfj, hjn⟩
        case measure => simp [intOf]; omega
      | false =>
        have hN : Hid (f ≤ h) := by
          rw [HF.out]
          rcases Nat.lt_or_ge h (findN key ks) with g | g
          · rw [findN_ahead hx.out g] at hl; cases hl
          · exact g
        have cL := less_any x key w
        rw [hl] at cL
        clear hl
        go_wp2_with (go_at_call 54; refine cL.mono ?_; rintro e w' ⟨rfl, rfl⟩)
        go_round
        case rel => exact ⟨i, h, rfl, rfl, hif, hN.out, by omega⟩
        case measure => simp [intOf]; omega
    · obtain rfl : i = f := by omega
      obtain rfl : i = j := by omega
      clear hlt hif hfj
      by_cases hin : (i : Int) < n
      · obtain ⟨x, hx⟩ : ∃ x, Hid (ks[i]? = some x) := ⟨_, List.getElem?_eq_getElem (by rw [← EK.out]; omega)⟩
        obtain ⟨b, o, rfl, hlb, hc, hxs⟩ := HK.out.2.2 i x hx.out
        have hQ' : Hid (q = (x.toList == key.toList)) := by show _ = _; rw [HQ.out]; exact isN_here HF.out.symm hx.out
        cases he : (x.toList == key.toList) with
        | true =>
          have hQ2 : Hid (q = true) := by show _ = _; rw [hQ'.out, he]
          go_wp2
          go_ret2
          exact ⟨by rw [hQ2.out]; rfl, rfl⟩
        | false =>
          have hQ2 : Hid (q = false) := by show _ = _; rw [hQ'.out, he]
          go_wp2_with (go_at_call 55; refine (isNaN_any _ _).mono ?_; rintro e w' ⟨rfl, rfl⟩)
          go_ret2
          exact ⟨by rw [hQ2.out]; rfl, rfl⟩
      · have hQ2 : Hid (q = false) := by show _ = _; rw [HQ.out]; exact isN_off (by rw [← HF.out, ← EK.out]; omega)
        go_wp2
        go_ret2
        exact ⟨by rw [hQ2.out]; rfl, rfl⟩

set_option maxHeartbeats 1000000 in
/-- FIND, at all nodes and keys. -/
theorem nodeFind_any (l : Bool) (a a' a'' : Option Addr) (c c' c'' n n' n'' : Nat) (ks vs : List ByteArray) (cs : List Int) (key : ByteArray) (w : World) (hn : n = ks.length) (hn' : n' = vs.length) (hn'' : n'' = cs.length) (hK : IsS w a c ks) (hV : IsS w a' c' vs) (hC : IsI w a'' c'' cs) :
    Calls Try.prog 18 #[.agg #[.bool l, .slice a n c, .slice a' n' c', .slice a'' n'' c''], .string key] w fun e w' => e = .returned (.tuple #[.int .i64 (findR l ks vs cs key), .bool (findI l ks vs cs key)]) ∧ Below w.heap.size w w' := by
  have hB0 : Below w.heap.size w (w.alloc (.cells #[.bool l, .slice a n c, .slice a' n' c', .slice a'' n'' c''] 25)) := (Below.refl _ _).alloc (Nat.le_refl _) _
  have hX := box4_new w (.bool l) (.slice a n c) (.slice a' n' c') (.slice a'' n'' c'') 25 rfl
  have cS := mayStand_any l a a' a'' c c' c'' n n' n'' ks vs cs _ hn hn' hn'' (hK.below hB0) (hV.below hB0) (hC.below hB0)
  obtain ⟨r, hr⟩ : ∃ r, r = findR l ks vs cs key := ⟨_, rfl⟩
  obtain ⟨q, hq⟩ : ∃ q, q = findI l ks vs cs key := ⟨_, rfl⟩
  rw [← hr, ← hq]
  cases hs : standsN l ks vs cs with
  | true =>
    have HR : r = (findN key ks : Nat) := by rw [hr, findR, if_pos hs]
    have HQ : q = isN ks key := by rw [hq, findI, hs, Bool.true_and]
    rw [hs] at cS
    obtain ⟨h9, _, hri, _⟩ := standsN_iff.1 hs
    have cB : ∀ V, Below w.heap.size w V → Calls Try.prog 38 #[.slice a n c, .string key] V fun e w' => e = .returned (.tuple #[.int .i64 r, .bool q]) ∧ V = w' := fun V h => by rw [HR, HQ]; exact search_any a c n ks key V hn (hK.below h) hri (by rw [hn]; exact h9)
    clear hr hq hs HR HQ hn hn' hn'' hK hV hC h9 hri
    go_enter Try.func18, Try.ntmps18
    go_wp2_with (first
      | (go_at_call 31; refine cS.mono ?_; rintro e w1 ⟨rfl, hb⟩; obtain ⟨⟨q0, q1, q2, q3⟩, -⟩ := hX.below hb; have hB1 := Below.tr hB0 hb; clear hb cS hX hB0)
      | (go_at_call 38; refine (cB _ hB1).mono ?_; rintro e w2 ⟨rfl, rfl⟩))
    go_ret2
    exact ⟨rfl, hB1⟩
  | false =>
    have HR : Hid (r = 0) := by show _ = _; rw [hr, findR, if_neg (by rw [hs]; simp)]
    have HQ : Hid (q = false) := by show _ = _; rw [hq, findI, hs, Bool.false_and]
    rw [hs] at cS
    clear hr hq hs hn hn' hn'' hK hV hC
    go_enter Try.func18, Try.ntmps18
    go_wp2_with (go_at_call 31; refine cS.mono ?_; rintro e w1 ⟨rfl, hb⟩; obtain ⟨⟨q0, q1, q2, q3⟩, -⟩ := hX.below hb; have hB1 := Below.tr hB0 hb)
    go_ret2
    exact ⟨by rw [HR.out, HQ.out]; rfl, hB1⟩

theorem kidR_find {l : Bool} {ks vs : List ByteArray} {cs : List Int} {key : ByteArray} (hl : l = false) : kidR l ks vs cs key = findR l ks vs cs key + (if findI l ks vs cs key = true then 1 else 0) := by
  subst hl
  unfold kidR findR findI
  cases hs : standsN false ks vs cs with
  | true =>
    obtain ⟨_, _, hri, _⟩ := standsN_iff.1 hs
    rw [if_pos ⟨rfl, rfl⟩, if_pos rfl, Bool.true_and, kidN_find hri]
    split <;> simp
  | false => simp

set_option maxHeartbeats 1000000 in
/-- KID, at all nodes and keys. -/
theorem nodeKid_any (l : Bool) (a a' a'' : Option Addr) (c c' c'' n n' n'' : Nat) (ks vs : List ByteArray) (cs : List Int) (key : ByteArray) (w : World) (hn : n = ks.length) (hn' : n' = vs.length) (hn'' : n'' = cs.length) (hK : IsS w a c ks) (hV : IsS w a' c' vs) (hC : IsI w a'' c'' cs) :
    Calls Try.prog 20 #[.agg #[.bool l, .slice a n c, .slice a' n' c', .slice a'' n'' c''], .string key] w fun e w' => e = .returned (.int .i64 (kidR l ks vs cs key)) ∧ Below w.heap.size w w' := by
  have hB0 : Below w.heap.size w (w.alloc (.cells #[.bool l, .slice a n c, .slice a' n' c', .slice a'' n'' c''] 25)) := (Below.refl _ _).alloc (Nat.le_refl _) _
  have hX := box4_new w (.bool l) (.slice a n c) (.slice a' n' c') (.slice a'' n'' c'') 25 rfl
  have cS := nodeFind_any l a a' a'' c c' c'' n n' n'' ks vs cs key _ hn hn' hn'' (hK.below hB0) (hV.below hB0) (hC.below hB0)
  obtain ⟨r, hr⟩ : ∃ r, r = kidR l ks vs cs key := ⟨_, rfl⟩
  rw [← hr]
  cases l with
  | true =>
    have HR : Hid (r = 0) := by show _ = _; rw [hr, kidR, if_neg (by simp)]
    clear hr cS hn hn' hn'' hK hV hC
    go_enter Try.func20, Try.ntmps20
    go_wp2
    go_ret
    exact ⟨ret_int HR.out.symm, hB0⟩
  | false =>
    rw [kidR_find rfl] at hr
    have hb0 : 0 ≤ findR false ks vs cs key ∧ findR false ks vs cs key ≤ n := by
      unfold findR
      have := findN_le key ks
      split <;> omega
    have hm : n ≤ 9223372036854775807 := by rw [hn]; exact hK.size
    have hb9 : findR false ks vs cs key ≤ 9 := by
      unfold findR
      have := findN_le key ks
      split
      · rename_i h; have := (standsN_iff.1 h).1; omega
      · omega
    generalize findR false ks vs cs key = f at cS hr hb0 hb9
    generalize findI false ks vs cs key = g at cS hr
    clear hn hn' hn'' hK hV hC
    cases g with
    | true =>
      have HR : Hid (r = f + 1) := by show _ = _; rw [hr]; rfl
      clear hr
      go_enter Try.func20, Try.ntmps20
      go_wp2_with (go_at_call 18; refine cS.mono ?_; rintro e w1 ⟨rfl, hb⟩; have hB1 := Below.tr hB0 hb)
      go_ret
      exact ⟨ret_int HR.out.symm, hB1⟩
    | false =>
      have HR : Hid (r = f) := by show _ = _; rw [hr]; simp
      clear hr
      go_enter Try.func20, Try.ntmps20
      go_wp2_with (go_at_call 18; refine cS.mono ?_; rintro e w1 ⟨rfl, hb⟩; have hB1 := Below.tr hB0 hb)
      go_ret
      exact ⟨ret_int HR.out.symm, hB1⟩

end Go.Proofs.Ytmhnnfmggdohkaa

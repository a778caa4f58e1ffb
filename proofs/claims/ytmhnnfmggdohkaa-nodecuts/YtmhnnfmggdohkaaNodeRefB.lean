/-
  The document's own Right, Find and Kid of nodes.
-/
import Derived.Test.YtmhnnfmggdohkaaNodeRef
import Derived.Test.YtmhnnfmggdohkaaNodeCut
namespace Go.Proofs.Ytmhnnfmggdohkaa
open Go.RowKit Plain
set_option linter.unusedVariables false

/-- STANDS, the rows' lengths as letters. -/
theorem refStands_at {l : Bool} {a a' a'' : Option Addr} {c c' c'' n n' n'' : Nat} {ks vs : List ByteArray} {cs : List Int} {w : World} (hn : n = ks.length) (hn' : n' = vs.length) (hn'' : n'' = cs.length) (hK : IsS w a c ks) (hV : IsS w a' c' vs) (hC : IsI w a'' c'' cs) :
    Calls Try.prog 25 #[.agg #[.bool l, .slice a n c, .slice a' n' c', .slice a'' n'' c'']] w fun e w' => e = .returned (.bool (standsN l ks vs cs)) ∧ Below w.heap.size w w' := by
  subst hn hn' hn''; exact refStands_any l a a' a'' c c' c'' ks vs cs w hK hV hC

set_option maxHeartbeats 1000000 in
/-- RIGHT, at all nodes. -/
theorem refNodeRight_any (l : Bool) (a a' a'' : Option Addr) (c c' c'' n n' n'' : Nat) (ks vs : List ByteArray) (cs : List Int) (root : Bool) (w : World) (hn : n = ks.length) (hn' : n' = vs.length) (hn'' : n'' = cs.length) (hK : IsS w a c ks) (hV : IsS w a' c' vs) (hC : IsI w a'' c'' cs) :
    Calls Try.prog 11 #[.agg #[.bool l, .slice a n c, .slice a' n' c', .slice a'' n'' c''], .bool root] w fun e w' => e = .returned (.bool (rightN l ks vs cs root)) ∧ Below w.heap.size w w' := by
  have hB0 : Below w.heap.size w (w.alloc (.cells #[.bool l, .slice a n c, .slice a' n' c', .slice a'' n'' c''] 25)) := (Below.refl _ _).alloc (Nat.le_refl _) _
  have hX := box4_new w (.bool l) (.slice a n c) (.slice a' n' c') (.slice a'' n'' c'') 25 rfl
  have cS := refStands_at (l := l) hn hn' hn'' (hK.below hB0) (hV.below hB0) (hC.below hB0)
  have hm : n ≤ 9223372036854775807 := by rw [hn]; exact hK.size
  have HE : Hid (rightN l ks vs cs root = (standsN l ks vs cs && decide ((n : Int) ≤ 8) && (root || decide (4 ≤ (n : Int))))) := by
    show _ = _
    rw [hn]; unfold rightN
    congr 1
    · congr 1
      rw [decide_eq_decide]; omega
    · congr 1
      rw [decide_eq_decide]; omega
  clear hn hn' hn'' hK hV hC
  cases hs : standsN l ks vs cs with
  | true =>
    rw [hs] at cS HE
    by_cases h8 : (n : Int) ≤ 8
    · cases root with
      | true =>
        go_enter Try.func11, Try.ntmps11
        go_wp2_with (go_at_call 25; refine cS.mono ?_; rintro e w1 ⟨rfl, hb⟩; obtain ⟨⟨q0, q1, q2, q3⟩, -⟩ := hX.below hb; have hB1 := Below.tr hB0 hb)
        go_ret
        exact ⟨ret_bool (by rw [HE.out]; simp [h8]), hB1⟩
      | false =>
        go_enter Try.func11, Try.ntmps11
        go_wp2_with (go_at_call 25; refine cS.mono ?_; rintro e w1 ⟨rfl, hb⟩; obtain ⟨⟨q0, q1, q2, q3⟩, -⟩ := hX.below hb; have hB1 := Below.tr hB0 hb)
        go_ret
        exact ⟨ret_bool (by rw [HE.out]; simp [h8]), hB1⟩
    · go_enter Try.func11, Try.ntmps11
      go_wp2_with (go_at_call 25; refine cS.mono ?_; rintro e w1 ⟨rfl, hb⟩; obtain ⟨⟨q0, q1, q2, q3⟩, -⟩ := hX.below hb; have hB1 := Below.tr hB0 hb)
      go_ret
      exact ⟨ret_bool (by rw [HE.out, decide_eq_false (p := (n : Int) ≤ 8) (by omega)]; simp), hB1⟩
  | false =>
    rw [hs] at cS HE
    go_enter Try.func11, Try.ntmps11
    go_wp2_with (go_at_call 25; refine cS.mono ?_; rintro e w1 ⟨rfl, hb⟩; obtain ⟨⟨q0, q1, q2, q3⟩, -⟩ := hX.below hb; have hB1 := Below.tr hB0 hb)
    go_ret
    exact ⟨ret_bool (by rw [HE.out]; simp), hB1⟩

theorem isN_at {key x : ByteArray} {ks : List ByteArray} {j : Nat} (hf : findN key ks = j) (hx : ks[j]? = some x) : isN ks key = (x.toList == key.toList) := by
  rw [Bool.eq_iff_iff, isN_iff, hf, hx, str_beq]
  exact ⟨fun h => Option.some.inj h, fun h => by rw [h]⟩

theorem isN_none {key : ByteArray} {ks : List ByteArray} (hf : findN key ks = ks.length) : isN ks key = false := by
  rw [Bool.eq_false_iff]
  intro h
  rw [isN_iff, hf, List.getElem?_eq_none (Nat.le_refl _)] at h
  cases h

set_option maxHeartbeats 1000000 in
/-- FIND, at all nodes and keys. -/
theorem refFind_any (l : Bool) (a a' a'' : Option Addr) (c c' c'' n n' n'' : Nat) (ks vs : List ByteArray) (cs : List Int) (key : ByteArray) (w : World) (hn : n = ks.length) (hn' : n' = vs.length) (hn'' : n'' = cs.length) (hK : IsS w a c ks) (hV : IsS w a' c' vs) (hC : IsI w a'' c'' cs) :
    Calls Try.prog 19 #[.agg #[.bool l, .slice a n c, .slice a' n' c', .slice a'' n'' c''], .string key] w fun e w' => e = .returned (.tuple #[.int .i64 (findR l ks vs cs key), .bool (findI l ks vs cs key)]) ∧ Below w.heap.size w w' := by
  have hB0 : Below w.heap.size w (w.alloc (.cells #[.bool l, .slice a n c, .slice a' n' c', .slice a'' n'' c''] 25)) := (Below.refl _ _).alloc (Nat.le_refl _) _
  have hX := box4_new w (.bool l) (.slice a n c) (.slice a' n' c') (.slice a'' n'' c'') 25 rfl
  have cS := refStands_at (l := l) hn hn' hn'' (hK.below hB0) (hV.below hB0) (hC.below hB0)
  have hm : n ≤ 9223372036854775807 := by rw [hn]; exact hK.size
  have EK : Hid (n = ks.length) := hn
  have HK : Hid (IsS w a c ks) := hK
  clear hn hn' hn'' hK hV hC
  obtain ⟨r, hr⟩ : ∃ r, r = findR l ks vs cs key := ⟨_, rfl⟩
  obtain ⟨q, hq⟩ : ∃ q, q = findI l ks vs cs key := ⟨_, rfl⟩
  rw [← hr, ← hq]
  cases hs : standsN l ks vs cs with
  | true =>
    have HR : Hid (r = (findN key ks : Nat)) := by show _ = _; rw [hr, findR, if_pos hs]
    have HQ : Hid (q = isN ks key) := by show _ = _; rw [hq, findI, hs, Bool.true_and]
    rw [hs] at cS
    clear hr hq hs
    go_enter Try.func19, Try.ntmps19
    go_wp2_with (go_at_call 25; refine cS.mono ?_; rintro e w1 ⟨rfl, hb⟩; obtain ⟨⟨q0, q1, q2, q3⟩, -⟩ := hX.below hb; have hB1 := Below.tr hB0 hb; clear hb cS hX hB0)
    go_loop [14] (fun v => ∃ j : Nat, j ≤ n ∧ v = .int .i64 j ∧ ∀ i y, i < j → ks[i]? = some y → ltB y key = true) (fun v => n - (intOf v).toNat)
    case atStart => exact ⟨0, by omega, rfl, fun i y hi => by omega⟩
    case round =>
      obtain ⟨j, hj, rfl, hA⟩ := hrel
      have HA : Hid (∀ i y, i < j → ks[i]? = some y → ltB y key = true) := hA
      clear hA
      by_cases hlt : j < n
      · have hlt' : (j : Int) < n := by omega
        obtain ⟨x, hx⟩ : ∃ x, Hid (ks[j]? = some x) := ⟨_, List.getElem?_eq_getElem (by rw [← EK.out]; exact hlt)⟩
        obtain ⟨b, o, rfl, hlb, hc0, hxs⟩ := HK.out.2.2 j x hx.out
        have hc := cell_below hB1 hc0
        clear hc0 hlb
        cases hl : ltB x key with
        | true =>
          have hl' : Op.bytesLess x.toList key.toList = true := hl
          have hN : Hid (∀ i y, i < j + 1 → ks[i]? = some y → ltB y key = true) := by
            intro i y hi hy
            by_cases e : i = j
            · subst e; rw [hx.out] at hy; cases hy; exact hl
            · exact HA.out i y (by omega) hy
          clear hl
          go_wp2
          go_round
          case rel => exact ⟨j + 1, by omega, by go_num, hN.out⟩
          case measure => simp [intOf]; omega
        | false =>
          have hl' : Op.bytesLess x.toList key.toList = false := hl
          have hf : Hid (findN key ks = j) := findN_is hx.out hl fun i y hi hy => HA.out i y hi hy
          have h1 : Hid (r = j) := by show _ = _; rw [HR.out, hf.out]
          have h2 : Hid (q = (x.toList == key.toList)) := by show _ = _; rw [HQ.out]; exact isN_at hf.out hx.out
          clear hl
          go_wp2
          go_ret2
          exact ⟨by rw [h1.out, h2.out]; rfl, hB1⟩
      · obtain rfl : j = n := by omega
        have hf : Hid (findN key ks = ks.length) := findN_all fun i y hy => HA.out i y (by rw [EK.out]; exact (List.getElem?_eq_some_iff.1 hy).1) hy
        have h1 : Hid (r = j) := by show _ = _; rw [HR.out, hf.out, EK.out]
        have h2 : Hid (q = false) := by show _ = _; rw [HQ.out]; exact isN_none hf.out
        go_wp2
        go_ret2
        exact ⟨by rw [h1.out, h2.out]; rfl, hB1⟩
  | false =>
    have HR : Hid (r = 0) := by show _ = _; rw [hr, findR, if_neg (by rw [hs]; simp)]
    have HQ : Hid (q = false) := by show _ = _; rw [hq, findI, hs, Bool.false_and]
    rw [hs] at cS
    clear hr hq hs
    go_enter Try.func19, Try.ntmps19
    go_wp2_with (go_at_call 25; refine cS.mono ?_; rintro e w1 ⟨rfl, hb⟩; obtain ⟨⟨q0, q1, q2, q3⟩, -⟩ := hX.below hb; have hB1 := Below.tr hB0 hb)
    go_ret2
    exact ⟨by rw [HR.out, HQ.out]; rfl, hB1⟩

theorem kid_step {key x : ByteArray} {ks : List ByteArray} {j : Nat} (hx : ks[j]? = some x) : kidN (ks.take (j + 1)) key = kidN (ks.take j) key + (if ltB key x = true then 0 else 1) := by
  unfold kidN
  rw [List.take_add_one, hx, List.countP_append]
  congr 1
  cases h : ltB key x <;> simp [h]

set_option maxHeartbeats 1000000 in
/-- KID, at all nodes and keys. -/
theorem refKid_any (l : Bool) (a a' a'' : Option Addr) (c c' c'' n n' n'' : Nat) (ks vs : List ByteArray) (cs : List Int) (key : ByteArray) (w : World) (hn : n = ks.length) (hn' : n' = vs.length) (hn'' : n'' = cs.length) (hK : IsS w a c ks) (hV : IsS w a' c' vs) (hC : IsI w a'' c'' cs) :
    Calls Try.prog 21 #[.agg #[.bool l, .slice a n c, .slice a' n' c', .slice a'' n'' c''], .string key] w fun e w' => e = .returned (.int .i64 (kidR l ks vs cs key)) ∧ Below w.heap.size w w' := by
  have hB0 : Below w.heap.size w (w.alloc (.cells #[.bool l, .slice a n c, .slice a' n' c', .slice a'' n'' c''] 25)) := (Below.refl _ _).alloc (Nat.le_refl _) _
  have hX := box4_new w (.bool l) (.slice a n c) (.slice a' n' c') (.slice a'' n'' c'') 25 rfl
  have cS := refStands_at (l := l) hn hn' hn'' (hK.below hB0) (hV.below hB0) (hC.below hB0)
  have hm : n ≤ 9223372036854775807 := by rw [hn]; exact hK.size
  have EK : Hid (n = ks.length) := hn
  have HK : Hid (IsS w a c ks) := hK
  clear hn hn' hn'' hK hV hC
  obtain ⟨r, hr⟩ : ∃ r, r = kidR l ks vs cs key := ⟨_, rfl⟩
  rw [← hr]
  cases l with
  | true =>
    have HR : Hid (r = 0) := by show _ = _; rw [hr, kidR, if_neg (by simp)]
    clear hr cS
    go_enter Try.func21, Try.ntmps21
    go_wp2
    go_ret
    exact ⟨ret_int HR.out.symm, hB0⟩
  | false =>
    cases hs : standsN false ks vs cs with
    | true =>
      have HR : Hid (r = (kidN ks key : Nat)) := by show _ = _; rw [hr, kidR, if_pos ⟨hs, rfl⟩]
      rw [hs] at cS
      clear hr hs
      go_enter Try.func21, Try.ntmps21
      go_wp2_with (go_at_call 25; refine cS.mono ?_; rintro e w1 ⟨rfl, hb⟩; obtain ⟨⟨q0, q1, q2, q3⟩, -⟩ := hX.below hb; have hB1 := Below.tr hB0 hb; clear hb cS hX hB0)
      go_loop [5, 18] (fun u v => ∃ j k : Nat, j ≤ n ∧ v = .int .i64 j ∧ u = .int .i64 k ∧ k ≤ j ∧ k = kidN (ks.take j) key) (fun _ v => n - (intOf v).toNat)
      case atStart => exact ⟨0, 0, by omega, rfl, rfl, by omega, by simp [kidN]⟩
      case round =>
        obtain ⟨j, k, hj, rfl, rfl, hkj, hA⟩ := hrel
        have HA : Hid (k = kidN (ks.take j) key) := hA
        clear hA
        by_cases hlt : j < n
        · have hlt' : (j : Int) < n := by omega
          obtain ⟨x, hx⟩ : ∃ x, Hid (ks[j]? = some x) := ⟨_, List.getElem?_eq_getElem (by rw [← EK.out]; exact hlt)⟩
          obtain ⟨b, o, rfl, hlb, hc0, hxs⟩ := HK.out.2.2 j x hx.out
          have hc := cell_below hB1 hc0
          have hle := le_text x key
          clear hc0 hlb
          cases hl : ltB key x with
          | true =>
            rw [hl] at hle
            simp only [Bool.not_true] at hle
            have hN : Hid (k = kidN (ks.take (j + 1)) key) := by show _ = _; rw [kid_step hx.out, hl, HA.out]; simp
            clear hl
            go_wp2
            go_round
            case rel => exact ⟨j + 1, k, by omega, by go_num, rfl, by omega, hN.out⟩
            case measure => simp [intOf]; omega
          | false =>
            rw [hl] at hle
            simp only [Bool.not_false] at hle
            have hN : Hid (k + 1 = kidN (ks.take (j + 1)) key) := by show _ = _; rw [kid_step hx.out, hl, HA.out]; simp
            clear hl
            go_wp2
            go_round
            case rel => exact ⟨j + 1, k + 1, by omega, by go_num, by go_num, by omega, hN.out⟩
            case measure => simp [intOf]; omega
        · obtain rfl : j = n := by omega
          have h1 : Hid (r = k) := by show _ = _; rw [HR.out, HA.out, List.take_of_length_le (by rw [EK.out]; exact Nat.le_refl _)]
          go_wp2
          go_ret
          exact ⟨ret_int h1.out.symm, hB1⟩
    | false =>
      have HR : Hid (r = 0) := by show _ = _; rw [hr, kidR, if_neg (by rw [hs]; simp)]
      rw [hs] at cS
      clear hr hs
      go_enter Try.func21, Try.ntmps21
      go_wp2_with (go_at_call 25; refine cS.mono ?_; rintro e w1 ⟨rfl, hb⟩; obtain ⟨⟨q0, q1, q2, q3⟩, -⟩ := hX.below hb; have hB1 := Below.tr hB0 hb)
      go_ret
      exact ⟨ret_int HR.out.symm, hB1⟩

end Go.Proofs.Ytmhnnfmggdohkaa

/-
  The program's own areKeys, areValues, areBlocks, mayStand and Right of nodes.
-/
import Derived.Test.YtmhnnfmggdohkaaNodeRef
namespace Go.Proofs.Ytmhnnfmggdohkaa
open Go.RowKit Plain
set_option linter.unusedVariables false

def keysN (ks : List ByteArray) : Bool := ks.all keyOk && risingK ks
def valsN (vs : List ByteArray) : Bool := vs.all valOk
def kidsN (cs : List Int) : Bool := cs.all kidOk

theorem standsN_parts (l : Bool) (ks vs : List ByteArray) (cs : List Int) : standsN l ks vs cs = (decide (ks.length ≤ 9) && keysN ks && valsN vs && kidsN cs && shapeN l ks.length vs.length cs.length) := by
  unfold standsN keysN valsN kidsN
  simp only [Bool.and_assoc]

theorem idx_of {α : Type} {xs : List α} {x : α} (h : x ∈ xs) : ∃ i, i < xs.length ∧ xs[i]? = some x := by
  obtain ⟨i, hi, e⟩ := List.getElem_of_mem h
  exact ⟨i, hi, by rw [List.getElem?_eq_getElem hi, e]⟩

theorem keysN_iff {ks : List ByteArray} : keysN ks = true ↔ (∀ k ∈ ks, 1 ≤ k.size ∧ k.size ≤ 32) ∧ risingK ks = true := by
  unfold keysN keyOk
  simp only [Bool.and_eq_true, List.all_eq_true, decide_eq_true_eq]

theorem keysN_all {ks : List ByteArray} (hk : keysTo ks ks.length) : keysN ks = true :=
  keysN_iff.2 ⟨fun k hm => by obtain ⟨i, hi, e⟩ := idx_of hm; exact hk.1 i k hi e, rising_next.2 fun i x y hx hy => hk.2 i x y (List.getElem?_eq_some_iff.1 hy).1 hx hy⟩

theorem keysN_key {ks : List ByteArray} {j : Nat} {x : ByteArray} (hj : ks[j]? = some x) (h : ¬ (1 ≤ x.size ∧ x.size ≤ 32)) : keysN ks = false := by
  rw [Bool.eq_false_iff]; exact fun hh => h ((keysN_iff.1 hh).1 x (List.mem_of_getElem? hj))

theorem keysN_fall {ks : List ByteArray} {j : Nat} {x y : ByteArray} (hj : ks[j]? = some x) (hj' : ks[j + 1]? = some y) (h : ltB x y = false) : keysN ks = false := by
  rw [Bool.eq_false_iff]
  intro hh
  have := rising_next.1 (keysN_iff.1 hh).2 j x y hj hj'
  rw [h] at this; cases this

theorem valsN_iff {vs : List ByteArray} : valsN vs = true ↔ ∀ v ∈ vs, v.size ≤ 200 := by
  unfold valsN valOk
  simp only [List.all_eq_true, decide_eq_true_eq]

theorem kidsN_iff {cs : List Int} : kidsN cs = true ↔ ∀ c ∈ cs, 10 ≤ c ∧ c ≤ 2047 := by
  unfold kidsN kidOk
  simp only [Bool.and_eq_true, List.all_eq_true, decide_eq_true_eq]

theorem nil_list : (⟨#[]⟩ : ByteArray).toList = [] := by rw [ByteArray.toList_eq]

theorem empty_size {x : ByteArray} (h : ¬ x = ⟨#[]⟩) : 1 ≤ x.size := by
  rcases Nat.eq_zero_or_pos x.size with h0 | h0
  · exfalso
    apply h
    apply bytes_ext
    have : x.data.toList.length = 0 := h0
    rw [List.length_eq_zero_iff.1 this]
  · exact h0

set_option maxHeartbeats 1000000 in
/-- ARE KEYS, of any texts. -/
theorem areKeys_any (a : Option Addr) (c n : Nat) (ks : List ByteArray) (w : World) (hn : n = ks.length) (hK : IsS w a c ks) :
    Calls Try.prog 46 #[.slice a n c] w fun e w' => e = .returned (.bool (keysN ks)) ∧ Below w.heap.size w w' := by
  have HK : Hid (IsS w a c ks) := hK
  have hm : n ≤ 9223372036854775807 := by rw [hn]; exact hK.size
  have EK : Hid (n = ks.length) := hn
  have hB0 : Below w.heap.size w w := Below.refl _ _
  clear hK hn
  obtain ⟨r, hr⟩ : ∃ r, r = keysN ks := ⟨_, rfl⟩
  have HR : Hid (r = keysN ks) := hr
  rw [← hr]
  clear hr
  go_enter Try.func46, Try.ntmps46
  go_wp2
  go_loop [7] (fun v => ∃ j : Nat, j ≤ n ∧ v = .int .i64 j ∧ keysTo ks j) (fun v => n - (intOf v).toNat)
  case atStart => exact ⟨0, by omega, rfl, keysTo_zero ks⟩
  case round =>
    obtain ⟨j, hj, rfl, hA⟩ := hrel
    have HA : Hid (keysTo ks j) := hA
    clear hA
    by_cases hlt : j < n
    · have hlt' : (j : Int) < n := by omega
      obtain ⟨x, hx⟩ : ∃ x, Hid (ks[j]? = some x) := ⟨_, List.getElem?_eq_getElem (by rw [← EK.out]; exact hlt)⟩
      obtain ⟨b, o, rfl, hlb, hc, hxs⟩ := HK.out.2.2 j x hx.out
      unfold maxLen at hxs
      by_cases h1 : x = ⟨#[]⟩
      · have h1' : x.toList = [] := by rw [h1]; exact nil_list
        have hF : Hid (r = false) := by show _ = _; rw [HR.out]; exact keysN_key hx.out (by rw [h1]; simp [ByteArray.size])
        clear h1
        go_wp2
        go_ret
        exact ⟨ret_bool hF.out.symm, hB0⟩
      · have h1' : ¬ x.toList = [] := fun h => h1 (toList_inj (h.trans nil_list.symm))
        have h1'' : x.toList.isEmpty = false := by rw [List.isEmpty_eq_false_iff]; exact h1'
        have h1s : Hid (1 ≤ x.size) := empty_size h1
        clear h1
        by_cases h2 : (x.size : Int) ≤ 32
        · by_cases h0 : (0 : Int) < j
          · obtain ⟨i, rfl⟩ : ∃ i, j = i + 1 := ⟨j - 1, by omega⟩
            obtain ⟨p, hp⟩ : ∃ x, Hid (ks[i]? = some x) := ⟨_, List.getElem?_eq_getElem (by rw [← EK.out]; omega)⟩
            obtain ⟨b2, o2, hbo, hlb2, hc2, hps⟩ := HK.out.2.2 i p hp.out
            obtain ⟨rfl, rfl⟩ : b2 = b ∧ o2 = o := by cases hbo; exact ⟨rfl, rfl⟩
            clear hbo hlb hlb2 hps
            have hi0 : ((i + 1 : Nat) : Int) - 1 = i := by omega
            have hin : i < n := by omega
            cases hlt2 : ltB p x with
            | true =>
              have hle : Op.bytesLess p.toList x.toList = true := hlt2
              have hN : Hid (keysTo ks (i + 1 + 1)) := keysTo_next HA.out hp.out hx.out h1s.out (by omega) hlt2
              clear hlt2
              go_wp2
              go_round
              case rel => exact ⟨i + 1 + 1, by omega, by go_num, hN.out⟩
              case measure => simp [intOf]; omega
            | false =>
              have hle : Op.bytesLess p.toList x.toList = false := hlt2
              have hF : Hid (r = false) := by show _ = _; rw [HR.out]; exact keysN_fall hp.out hx.out hlt2
              clear hlt2
              go_wp2
              go_ret
              exact ⟨ret_bool hF.out.symm, hB0⟩
          · obtain rfl : j = 0 := by omega
            rw [Nat.add_zero] at hc
            have hN : Hid (keysTo ks 1) := keysTo_first hx.out h1s.out (by omega)
            go_wp2
            go_round
            case rel => exact ⟨1, by omega, by go_num, hN.out⟩
            case measure => simp [intOf]; omega
        · have hF : Hid (r = false) := by show _ = _; rw [HR.out]; exact keysN_key hx.out (by omega)
          go_wp2
          go_ret
          exact ⟨ret_bool hF.out.symm, hB0⟩
    · obtain rfl : j = n := by omega
      have hT : Hid (r = true) := by show _ = _; rw [HR.out]; exact keysN_all (by rw [← EK.out]; exact HA.out)
      go_wp2
      go_ret
      exact ⟨ret_bool hT.out.symm, hB0⟩

set_option maxHeartbeats 1000000 in
/-- ARE VALUES, of any texts. -/
theorem areValues_any (a : Option Addr) (c n : Nat) (vs : List ByteArray) (w : World) (hn : n = vs.length) (hV : IsS w a c vs) :
    Calls Try.prog 47 #[.slice a n c] w fun e w' => e = .returned (.bool (valsN vs)) ∧ Below w.heap.size w w' := by
  have HK : Hid (IsS w a c vs) := hV
  have hm : n ≤ 9223372036854775807 := by rw [hn]; exact hV.size
  have EK : Hid (n = vs.length) := hn
  have hB0 : Below w.heap.size w w := Below.refl _ _
  clear hV hn
  obtain ⟨r, hr⟩ : ∃ r, r = valsN vs := ⟨_, rfl⟩
  have HR : Hid (r = valsN vs) := hr
  rw [← hr]
  clear hr
  go_enter Try.func47, Try.ntmps47
  go_wp2
  go_loop [7] (fun v => ∃ i : Nat, i ≤ n ∧ v = .int .i64 i ∧ allTo (fun v => v.size ≤ 200) vs i) (fun v => n - (intOf v).toNat)
  case atStart => exact ⟨0, by omega, rfl, fun i x hi => by omega⟩
  case round =>
    obtain ⟨i, hi, rfl, hA⟩ := hrel
    have HA : Hid (allTo (fun v => v.size ≤ 200) vs i) := hA
    clear hA
    by_cases hlt : i < n
    · have hlt' : (i : Int) < n := by omega
      obtain ⟨x, hx⟩ : ∃ x, Hid (vs[i]? = some x) := ⟨_, List.getElem?_eq_getElem (by rw [← EK.out]; exact hlt)⟩
      obtain ⟨b, o, rfl, hlb, hc, hxs⟩ := HK.out.2.2 i x hx.out
      unfold maxLen at hxs
      by_cases h2 : (x.size : Int) ≤ 200
      · have hN : Hid (allTo (fun v => v.size ≤ 200) vs (i + 1)) := allTo_next HA.out hx.out (by omega)
        go_wp2
        go_round
        case rel => exact ⟨i + 1, by omega, by go_num, hN.out⟩
        case measure => simp [intOf]; omega
      · have hF : Hid (r = false) := by
          show _ = _
          rw [HR.out, Bool.eq_false_iff]
          exact fun hh => h2 (by have := valsN_iff.1 hh x (List.mem_of_getElem? hx.out); omega)
        go_wp2
        go_ret
        exact ⟨ret_bool hF.out.symm, hB0⟩
    · obtain rfl : i = n := by omega
      have hT : Hid (r = true) := by
        show _ = _
        rw [HR.out]
        exact valsN_iff.2 fun v hm => by obtain ⟨j, hj, e⟩ := idx_of hm; exact HA.out j v (by rw [EK.out]; exact hj) e
      go_wp2
      go_ret
      exact ⟨ret_bool hT.out.symm, hB0⟩

set_option maxHeartbeats 1000000 in
/-- ARE BLOCKS, of any numbers. -/
theorem areBlocks_any (a : Option Addr) (c n : Nat) (cs : List Int) (w : World) (hn : n = cs.length) (hC : IsI w a c cs) :
    Calls Try.prog 48 #[.slice a n c] w fun e w' => e = .returned (.bool (kidsN cs)) ∧ Below w.heap.size w w' := by
  have HK : Hid (IsI w a c cs) := hC
  have hm : n ≤ 9223372036854775807 := by rw [hn]; exact hC.size
  have EK : Hid (n = cs.length) := hn
  have hB0 : Below w.heap.size w w := Below.refl _ _
  clear hC hn
  obtain ⟨r, hr⟩ : ∃ r, r = kidsN cs := ⟨_, rfl⟩
  have HR : Hid (r = kidsN cs) := hr
  rw [← hr]
  clear hr
  go_enter Try.func48, Try.ntmps48
  go_wp2
  go_loop [7] (fun v => ∃ i : Nat, i ≤ n ∧ v = .int .i64 i ∧ allTo (fun c => 10 ≤ c ∧ c ≤ 2047) cs i) (fun v => n - (intOf v).toNat)
  case atStart => exact ⟨0, by omega, rfl, fun i x hi => by omega⟩
  case round =>
    obtain ⟨i, hi, rfl, hA⟩ := hrel
    have HA : Hid (allTo (fun c => 10 ≤ c ∧ c ≤ 2047) cs i) := hA
    clear hA
    by_cases hlt : i < n
    · have hlt' : (i : Int) < n := by omega
      obtain ⟨x, hx⟩ : ∃ x, Hid (cs[i]? = some x) := ⟨_, List.getElem?_eq_getElem (by rw [← EK.out]; exact hlt)⟩
      obtain ⟨b, o, rfl, hlb, hc⟩ := HK.out.2.2 i x hx.out
      have hF' : Hid (¬ (10 ≤ x ∧ x ≤ 2047) → r = false) := fun h => by
        rw [HR.out, Bool.eq_false_iff]
        exact fun hh => h (kidsN_iff.1 hh x (List.mem_of_getElem? hx.out))
      by_cases h1 : 10 ≤ x
      · by_cases h2 : x < 2048
        · have hN : Hid (allTo (fun c => 10 ≤ c ∧ c ≤ 2047) cs (i + 1)) := allTo_next HA.out hx.out ⟨h1, by omega⟩
          go_wp2
          go_round
          case rel => exact ⟨i + 1, by omega, by go_num, hN.out⟩
          case measure => simp [intOf]; omega
        · have hF : Hid (r = false) := hF'.out (by omega)
          go_wp2
          go_ret
          exact ⟨ret_bool hF.out.symm, hB0⟩
      · have hF : Hid (r = false) := hF'.out (by omega)
        go_wp2
        go_ret
        exact ⟨ret_bool hF.out.symm, hB0⟩
    · obtain rfl : i = n := by omega
      have hT : Hid (r = true) := by
        show _ = _
        rw [HR.out]
        exact kidsN_iff.2 fun v hm => by obtain ⟨j, hj, e⟩ := idx_of hm; exact HA.out j v (by rw [EK.out]; exact hj) e
      go_wp2
      go_ret
      exact ⟨ret_bool hT.out.symm, hB0⟩

set_option maxHeartbeats 2000000 in
/-- MAY STAND, at all nodes. -/
theorem mayStand_any (l : Bool) (a a' a'' : Option Addr) (c c' c'' n n' n'' : Nat) (ks vs : List ByteArray) (cs : List Int) (w : World) (hn : n = ks.length) (hn' : n' = vs.length) (hn'' : n'' = cs.length) (hK : IsS w a c ks) (hV : IsS w a' c' vs) (hC : IsI w a'' c'' cs) :
    Calls Try.prog 31 #[.agg #[.bool l, .slice a n c, .slice a' n' c', .slice a'' n'' c'']] w fun e w' => e = .returned (.bool (standsN l ks vs cs)) ∧ Below w.heap.size w w' := by
  have hB0 : Below w.heap.size w (w.alloc (.cells #[.bool l, .slice a n c, .slice a' n' c', .slice a'' n'' c''] 25)) := (Below.refl _ _).alloc (Nat.le_refl _) _
  have hX := box4_new w (.bool l) (.slice a n c) (.slice a' n' c') (.slice a'' n'' c'') 25 rfl
  have cK : ∀ W', Below w.heap.size w W' → Calls Try.prog 46 #[.slice a n c] W' fun e w' => e = .returned (.bool (keysN ks)) ∧ Below W'.heap.size W' w' := fun W' h => areKeys_any _ _ _ _ _ hn (hK.below h)
  have cV : ∀ W', Below w.heap.size w W' → Calls Try.prog 47 #[.slice a' n' c'] W' fun e w' => e = .returned (.bool (valsN vs)) ∧ Below W'.heap.size W' w' := fun W' h => areValues_any _ _ _ _ _ hn' (hV.below h)
  have cC : ∀ W', Below w.heap.size w W' → Calls Try.prog 48 #[.slice a'' n'' c''] W' fun e w' => e = .returned (.bool (kidsN cs)) ∧ Below W'.heap.size W' w' := fun W' h => areBlocks_any _ _ _ _ _ hn'' (hC.below h)
  have hm : n ≤ 9223372036854775807 := by rw [hn]; exact hK.size
  have hm' : n' ≤ 9223372036854775807 := by rw [hn']; exact hV.size
  have hm'' : n'' ≤ 9223372036854775807 := by rw [hn'']; exact hC.size
  obtain ⟨r, hr⟩ : ∃ r, r = standsN l ks vs cs := ⟨_, rfl⟩
  have HR : Hid (r = (decide (n ≤ 9) && keysN ks && valsN vs && kidsN cs && shapeN l n n' n'')) := by show _ = _; rw [hr, hn, hn', hn'']; exact standsN_parts l ks vs cs
  have HV0 : Hid (n' = 0 → valsN vs = true) := fun h => by rw [hn'] at h; rw [List.length_eq_zero_iff.1 h]; rfl
  have HC0 : Hid (n'' = 0 → kidsN cs = true) := fun h => by rw [hn''] at h; rw [List.length_eq_zero_iff.1 h]; rfl
  rw [← hr]
  clear hr hn hn' hn'' hK hV hC
  generalize keysN ks = kk at cK HR
  generalize valsN vs = vv at cV HR HV0
  generalize kidsN cs = cc at cC HR HC0
  by_cases h9 : (n : Int) ≤ 9
  · cases kk with
    | true =>
      cases l with
      | true =>
        by_cases e1 : (n' : Int) = n
        · cases vv with
          | true =>
            have hE : Hid (r = ((n'' : Int) == 0)) := by
              show _ = _
              rw [HR.out]
              by_cases h0 : n'' = 0
              · rw [HC0.out h0, decide_eq_true (by omega), shape_leaf.2 ⟨by omega, h0⟩, h0]; rfl
              · rw [Bool.eq_false_iff.2 (fun h => h0 (shape_leaf.1 h).2 : ¬ shapeN true n n' n'' = true), Bool.and_false, (beq_eq_false_iff_ne.2 (by omega) : ((n'' : Int) == 0) = false)]
            clear HR HV0 HC0
            go_enter Try.func31, Try.ntmps31
            go_wp2_with (first
              | (go_at_call 46; refine (cK _ hB0).mono ?_; rintro e w1 ⟨rfl, hb⟩; replace hX := hX.below hb; obtain ⟨⟨q0, q1, q2, q3⟩, -⟩ := id hX; replace hB0 := Below.tr hB0 hb; clear hb)
              | (go_at_call 47; refine (cV _ hB0).mono ?_; rintro e w1 ⟨rfl, hb⟩; replace hX := hX.below hb; clear q0 q1 q2 q3; obtain ⟨⟨q0, q1, q2, q3⟩, -⟩ := id hX; replace hB0 := Below.tr hB0 hb; clear hb))
            go_ret
            exact ⟨ret_bool hE.out.symm, hB0⟩
          | false =>
            have hE : Hid (r = false) := by show _ = _; rw [HR.out]; simp
            clear HR HV0 HC0
            go_enter Try.func31, Try.ntmps31
            go_wp2_with (first
              | (go_at_call 46; refine (cK _ hB0).mono ?_; rintro e w1 ⟨rfl, hb⟩; replace hX := hX.below hb; obtain ⟨⟨q0, q1, q2, q3⟩, -⟩ := id hX; replace hB0 := Below.tr hB0 hb; clear hb)
              | (go_at_call 47; refine (cV _ hB0).mono ?_; rintro e w1 ⟨rfl, hb⟩; replace hX := hX.below hb; clear q0 q1 q2 q3; obtain ⟨⟨q0, q1, q2, q3⟩, -⟩ := id hX; replace hB0 := Below.tr hB0 hb; clear hb))
            go_ret
            exact ⟨ret_bool hE.out.symm, hB0⟩
        · have e1' : ((n' : Int) == n) = false := beq_eq_false_iff_ne.2 e1
          have hE : Hid (r = false) := by
            show _ = _
            rw [HR.out, Bool.eq_false_iff.2 (fun h => e1 (by have := (shape_leaf.1 h).1; omega) : ¬ shapeN true n n' n'' = true), Bool.and_false]
          clear HR HV0 HC0
          go_enter Try.func31, Try.ntmps31
          go_wp2_with (go_at_call 46; refine (cK _ hB0).mono ?_; rintro e w1 ⟨rfl, hb⟩; replace hX := hX.below hb; obtain ⟨⟨q0, q1, q2, q3⟩, -⟩ := id hX; replace hB0 := Below.tr hB0 hb; clear hb)
          go_ret
          exact ⟨ret_bool hE.out.symm, hB0⟩
      | false =>
        by_cases e1 : (n' : Int) = 0
        · by_cases e2 : (0 : Int) < n
          · by_cases e3 : (n'' : Int) = n + 1
            · have hE : Hid (r = cc) := by
                show _ = _
                rw [HR.out, HV0.out (by omega), decide_eq_true (by omega), shape_inner.2 ⟨by omega, by omega, by omega⟩]; simp
              clear HR HV0 HC0
              go_enter Try.func31, Try.ntmps31
              go_wp2_with (first
                | (go_at_call 46; refine (cK _ hB0).mono ?_; rintro e w1 ⟨rfl, hb⟩; replace hX := hX.below hb; obtain ⟨⟨q0, q1, q2, q3⟩, -⟩ := id hX; replace hB0 := Below.tr hB0 hb; clear hb)
                | (go_at_call 48; refine (cC _ hB0).mono ?_; rintro e w1 ⟨rfl, hb⟩; replace hB0 := Below.tr hB0 hb; clear hb))
              go_ret
              exact ⟨ret_bool hE.out.symm, hB0⟩
            · have e3' : ((n'' : Int) == n + 1) = false := beq_eq_false_iff_ne.2 e3
              have hE : Hid (r = false) := by
                show _ = _
                rw [HR.out, Bool.eq_false_iff.2 (fun h => e3 (by have := (shape_inner.1 h).2.2; omega) : ¬ shapeN false n n' n'' = true), Bool.and_false]
              clear HR HV0 HC0
              go_enter Try.func31, Try.ntmps31
              go_wp2_with (go_at_call 46; refine (cK _ hB0).mono ?_; rintro e w1 ⟨rfl, hb⟩; replace hX := hX.below hb; obtain ⟨⟨q0, q1, q2, q3⟩, -⟩ := id hX; replace hB0 := Below.tr hB0 hb; clear hb)
              go_ret
              exact ⟨ret_bool hE.out.symm, hB0⟩
          · have hE : Hid (r = false) := by
              show _ = _
              rw [HR.out, Bool.eq_false_iff.2 (fun h => e2 (by have := (shape_inner.1 h).2.1; omega) : ¬ shapeN false n n' n'' = true), Bool.and_false]
            clear HR HV0 HC0
            go_enter Try.func31, Try.ntmps31
            go_wp2_with (go_at_call 46; refine (cK _ hB0).mono ?_; rintro e w1 ⟨rfl, hb⟩; replace hX := hX.below hb; obtain ⟨⟨q0, q1, q2, q3⟩, -⟩ := id hX; replace hB0 := Below.tr hB0 hb; clear hb)
            go_ret
            exact ⟨ret_bool hE.out.symm, hB0⟩
        · have e1' : ((n' : Int) == 0) = false := beq_eq_false_iff_ne.2 e1
          have hE : Hid (r = false) := by
            show _ = _
            rw [HR.out, Bool.eq_false_iff.2 (fun h => e1 (by have := (shape_inner.1 h).1; omega) : ¬ shapeN false n n' n'' = true), Bool.and_false]
          clear HR HV0 HC0
          go_enter Try.func31, Try.ntmps31
          go_wp2_with (go_at_call 46; refine (cK _ hB0).mono ?_; rintro e w1 ⟨rfl, hb⟩; replace hX := hX.below hb; obtain ⟨⟨q0, q1, q2, q3⟩, -⟩ := id hX; replace hB0 := Below.tr hB0 hb; clear hb)
          go_ret
          exact ⟨ret_bool hE.out.symm, hB0⟩
    | false =>
      have hE : Hid (r = false) := by show _ = _; rw [HR.out]; simp
      clear HR HV0 HC0
      go_enter Try.func31, Try.ntmps31
      go_wp2_with (go_at_call 46; refine (cK _ hB0).mono ?_; rintro e w1 ⟨rfl, hb⟩; replace hX := hX.below hb; obtain ⟨⟨q0, q1, q2, q3⟩, -⟩ := id hX; replace hB0 := Below.tr hB0 hb; clear hb)
      go_ret
      exact ⟨ret_bool hE.out.symm, hB0⟩
  · have hE : Hid (r = false) := by
      show _ = _
      rw [HR.out, decide_eq_false (p := n ≤ 9) (by omega)]; simp
    clear HR HV0 HC0
    go_enter Try.func31, Try.ntmps31
    go_wp2
    go_ret
    exact ⟨ret_bool hE.out.symm, hB0⟩

set_option maxHeartbeats 1000000 in
/-- RIGHT, at all nodes. -/
theorem nodeRight_any (l : Bool) (a a' a'' : Option Addr) (c c' c'' n n' n'' : Nat) (ks vs : List ByteArray) (cs : List Int) (root : Bool) (w : World) (hn : n = ks.length) (hn' : n' = vs.length) (hn'' : n'' = cs.length) (hK : IsS w a c ks) (hV : IsS w a' c' vs) (hC : IsI w a'' c'' cs) :
    Calls Try.prog 13 #[.agg #[.bool l, .slice a n c, .slice a' n' c', .slice a'' n'' c''], .bool root] w fun e w' => e = .returned (.bool (rightN l ks vs cs root)) ∧ Below w.heap.size w w' := by
  have hB0 : Below w.heap.size w (w.alloc (.cells #[.bool l, .slice a n c, .slice a' n' c', .slice a'' n'' c''] 25)) := (Below.refl _ _).alloc (Nat.le_refl _) _
  have hX := box4_new w (.bool l) (.slice a n c) (.slice a' n' c') (.slice a'' n'' c'') 25 rfl
  have cS := mayStand_any l a a' a'' c c' c'' n n' n'' ks vs cs _ hn hn' hn'' (hK.below hB0) (hV.below hB0) (hC.below hB0)
  have hm : n ≤ 9223372036854775807 := by rw [hn]; exact hK.size
  have HE : Hid (rightN l ks vs cs root = (standsN l ks vs cs && decide ((n : Int) ≤ 8) && (root || decide (4 ≤ (n : Int))))) := by
    show _ = _
    rw [hn]; unfold rightN
    congr 1
    · congr 1
      rw [decide_eq_decide]; omega
    · congr 1
      rw [decide_eq_decide]; omega
  clear hn hn' hn'' hK hV hC
  cases hs : standsN l ks vs cs with
  | true =>
    rw [hs] at cS HE
    by_cases h8 : (n : Int) ≤ 8
    · cases root with
      | true =>
        go_enter Try.func13, Try.ntmps13
        go_wp2_with (go_at_call 31; refine cS.mono ?_; rintro e w1 ⟨rfl, hb⟩; obtain ⟨⟨q0, q1, q2, q3⟩, -⟩ := hX.below hb; have hB1 := Below.tr hB0 hb)
        go_ret
        exact ⟨ret_bool (by rw [HE.out]; simp [h8]), hB1⟩
      | false =>
        go_enter Try.func13, Try.ntmps13
        go_wp2_with (go_at_call 31; refine cS.mono ?_; rintro e w1 ⟨rfl, hb⟩; obtain ⟨⟨q0, q1, q2, q3⟩, -⟩ := hX.below hb; have hB1 := Below.tr hB0 hb)
        go_ret
        exact ⟨ret_bool (by rw [HE.out]; simp [h8]), hB1⟩
    · go_enter Try.func13, Try.ntmps13
      go_wp2_with (go_at_call 31; refine cS.mono ?_; rintro e w1 ⟨rfl, hb⟩; obtain ⟨⟨q0, q1, q2, q3⟩, -⟩ := hX.below hb; have hB1 := Below.tr hB0 hb)
      go_ret
      exact ⟨ret_bool (by rw [HE.out, decide_eq_false (p := (n : Int) ≤ 8) (by omega)]; simp), hB1⟩
  | false =>
    rw [hs] at cS HE
    go_enter Try.func13, Try.ntmps13
    go_wp2_with (go_at_call 31; refine cS.mono ?_; rintro e w1 ⟨rfl, hb⟩; obtain ⟨⟨q0, q1, q2, q3⟩, -⟩ := hX.below hb; have hB1 := Below.tr hB0 hb)
    go_ret
    exact ⟨ret_bool (by rw [HE.out]; simp), hB1⟩

end Go.Proofs.Ytmhnnfmggdohkaa

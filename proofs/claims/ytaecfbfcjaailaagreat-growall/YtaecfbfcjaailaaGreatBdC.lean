/-
  Texts laid together: NodeStand, NodeRead, NodeOnce, NodeGet, NodeGetB, NodeCut, NodeRefB, NodeRefGet, NodeRefGetI, BitsPlain, BitsMem, BitsBytes, BitsRef, BitsFind, BitsWith, BitsOnes, AllocPlain.
-/
import Derived.Test.YtaecfbfcjaailaaGreatBdB
import Derived.Test.YtaecfbfcjaailaaGreatBdA
import Derived.Lib.AppendZeros
import Derived.Lib.Strings
import Derived.Deep.Grids
import Derived.Laws.BitsAllLaws
import Derived.BigQuiet
namespace Go.Proofs.YtaecfbfcjaailaaGreat
open Go.RowKit Plain
set_option linter.unusedVariables false

def keysN (ks : List ByteArray) : Bool := ks.all keyOk && risingK ks
def valsN (vs : List ByteArray) : Bool := vs.all valOk
def kidsN (cs : List Int) : Bool := cs.all kidOk

theorem standsN_parts (l : Bool) (ks vs : List ByteArray) (cs : List Int) : standsN l ks vs cs = (decide (ks.length ≤ 9) && keysN ks && valsN vs && kidsN cs && shapeN l ks.length vs.length cs.length) := by
  unfold standsN keysN valsN kidsN
  simp only [Bool.and_assoc]

theorem idx_of {α : Type} {xs : List α} {x : α} (h : x ∈ xs) : ∃ i, i < xs.length ∧ xs[i]? = some x := by
  obtain ⟨i, hi, e⟩ := List.getElem_of_mem h
  exact ⟨i, hi, by rw [List.getElem?_eq_getElem hi, e]⟩

theorem keysN_iff {ks : List ByteArray} : keysN ks = true ↔ (∀ k ∈ ks, 1 ≤ k.size ∧ k.size ≤ 32) ∧ risingK ks = true := by
  unfold keysN keyOk
  simp only [Bool.and_eq_true, List.all_eq_true, decide_eq_true_eq]

theorem keysN_all {ks : List ByteArray} (hk : keysTo ks ks.length) : keysN ks = true :=
  keysN_iff.2 ⟨fun k hm => by obtain ⟨i, hi, e⟩ := idx_of hm; exact hk.1 i k hi e, rising_next.2 fun i x y hx hy => hk.2 i x y (List.getElem?_eq_some_iff.1 hy).1 hx hy⟩

theorem keysN_key {ks : List ByteArray} {j : Nat} {x : ByteArray} (hj : ks[j]? = some x) (h : ¬ (1 ≤ x.size ∧ x.size ≤ 32)) : keysN ks = false := by
  rw [Bool.eq_false_iff]; exact fun hh => h ((keysN_iff.1 hh).1 x (List.mem_of_getElem? hj))

theorem keysN_fall {ks : List ByteArray} {j : Nat} {x y : ByteArray} (hj : ks[j]? = some x) (hj' : ks[j + 1]? = some y) (h : ltB x y = false) : keysN ks = false := by
  rw [Bool.eq_false_iff]
  intro hh
  have := rising_next.1 (keysN_iff.1 hh).2 j x y hj hj'
  rw [h] at this; cases this

theorem valsN_iff {vs : List ByteArray} : valsN vs = true ↔ ∀ v ∈ vs, v.size ≤ 200 := by
  unfold valsN valOk
  simp only [List.all_eq_true, decide_eq_true_eq]

theorem kidsN_iff {cs : List Int} : kidsN cs = true ↔ ∀ c ∈ cs, 10 ≤ c ∧ c ≤ 2047 := by
  unfold kidsN kidOk
  simp only [Bool.and_eq_true, List.all_eq_true, decide_eq_true_eq]

theorem nil_list : (⟨#[]⟩ : ByteArray).toList = [] := by rw [ByteArray.toList_eq]

theorem empty_size {x : ByteArray} (h : ¬ x = ⟨#[]⟩) : 1 ≤ x.size := by
  rcases Nat.eq_zero_or_pos x.size with h0 | h0
  · exfalso
    apply h
    apply bytes_ext
    have : x.data.toList.length = 0 := h0
    rw [List.length_eq_zero_iff.1 this]
  · exact h0

set_option maxHeartbeats 1000000 in
/-- ARE KEYS, of any texts. -/
theorem areKeys_any (a : Option Addr) (c n : Nat) (ks : List ByteArray) (w : World) (hn : n = ks.length) (hK : IsS w a c ks) :
    Calls Tryz.prog 92 #[.slice a n c] w fun e w' => e = .returned (.bool (keysN ks)) ∧ Below w.heap.size w w' := by
  have HK : Hid (IsS w a c ks) := hK
  have hm : n ≤ 9223372036854775807 := by rw [hn]; exact hK.size
  have EK : Hid (n = ks.length) := hn
  have hB0 : Below w.heap.size w w := Below.refl _ _
  clear hK hn
  obtain ⟨r, hr⟩ : ∃ r, r = keysN ks := ⟨_, rfl⟩
  have HR : Hid (r = keysN ks) := hr
  rw [← hr]
  clear hr
  go_enter Tryz.func92, Tryz.ntmps92
  go_wp2
  go_loop [7] (fun v => ∃ j : Nat, j ≤ n ∧ v = .int .i64 j ∧ keysTo ks j) (fun v => n - (intOf v).toNat)
  case atStart => exact ⟨0, by omega, rfl, keysTo_zero ks⟩
  case round =>
    obtain ⟨j, hj, rfl, hA⟩ := hrel
    have HA : Hid (keysTo ks j) := hA
    clear hA
    by_cases hlt : j < n
    · have hlt' : (j : Int) < n := by omega
      obtain ⟨x, hx⟩ : ∃ x, Hid (ks[j]? = some x) := ⟨_, List.getElem?_eq_getElem (by rw [← EK.out]; exact hlt)⟩
      obtain ⟨b, o, rfl, hlb, hc, hxs⟩ := HK.out.2.2 j x hx.out
      unfold maxLen at hxs
      by_cases h1 : x = ⟨#[]⟩
      · have h1' : x.toList = [] := by rw [h1]; exact nil_list
        have hF : Hid (r = false) := by show _ = _; rw [HR.out]; exact keysN_key hx.out (by rw [h1]; simp [ByteArray.size])
        clear h1
        go_wp2
        go_ret
        exact ⟨ret_bool hF.out.symm, hB0⟩
      · have h1' : ¬ x.toList = [] := fun h => h1 (toList_inj (h.trans nil_list.symm))
        have h1'' : x.toList.isEmpty = false := by rw [List.isEmpty_eq_false_iff]; exact h1'
        have h1s : Hid (1 ≤ x.size) := empty_size h1
        clear h1
        by_cases h2 : (x.size : Int) ≤ 32
        · by_cases h0 : (0 : Int) < j
          · obtain ⟨i, rfl⟩ : ∃ i, j = i + 1 := ⟨j - 1, by omega⟩
            obtain ⟨p, hp⟩ : ∃ x, Hid (ks[i]? = some x) := ⟨_, List.getElem?_eq_getElem (by rw [← EK.out]; omega)⟩
            obtain ⟨b2, o2, hbo, hlb2, hc2, hps⟩ := HK.out.2.2 i p hp.out
            obtain ⟨rfl, rfl⟩ : b2 = b ∧ o2 = o := by cases hbo; exact ⟨rfl, rfl⟩
            clear hbo hlb hlb2 hps
            have hi0 : ((i + 1 : Nat) : Int) - 1 = i := by omega
            have hin : i < n := by omega
            cases hlt2 : ltB p x with
            | true =>
              have hle : Op.bytesLess p.toList x.toList = true := hlt2
              have hN : Hid (keysTo ks (i + 1 + 1)) := keysTo_next HA.out hp.out hx.out h1s.out (by omega) hlt2
              clear hlt2
              go_wp2
              go_round
              case rel => exact ⟨i + 1 + 1, by omega, by go_num, hN.out⟩
              case measure => simp [intOf]; omega
            | false =>
              have hle : Op.bytesLess p.toList x.toList = false := hlt2
              have hF : Hid (r = false) := by show _ = _; rw [HR.out]; exact keysN_fall hp.out hx.out hlt2
              clear hlt2
              go_wp2
              go_ret
              exact ⟨ret_bool hF.out.symm, hB0⟩
          · obtain rfl : j = 0 := by omega
            rw [Nat.add_zero] at hc
            have hN : Hid (keysTo ks 1) := keysTo_first hx.out h1s.out (by omega)
            go_wp2
            go_round
            case rel => exact ⟨1, by omega, by go_num, hN.out⟩
            case measure => simp [intOf]; omega
        · have hF : Hid (r = false) := by show _ = _; rw [HR.out]; exact keysN_key hx.out (by omega)
          go_wp2
          go_ret
          exact ⟨ret_bool hF.out.symm, hB0⟩
    · obtain rfl : j = n := by omega
      have hT : Hid (r = true) := by show _ = _; rw [HR.out]; exact keysN_all (by rw [← EK.out]; exact HA.out)
      go_wp2
      go_ret
      exact ⟨ret_bool hT.out.symm, hB0⟩

set_option maxHeartbeats 1000000 in
/-- ARE VALUES, of any texts. -/
theorem areValues_any (a : Option Addr) (c n : Nat) (vs : List ByteArray) (w : World) (hn : n = vs.length) (hV : IsS w a c vs) :
    Calls Tryz.prog 93 #[.slice a n c] w fun e w' => e = .returned (.bool (valsN vs)) ∧ Below w.heap.size w w' := by
  have HK : Hid (IsS w a c vs) := hV
  have hm : n ≤ 9223372036854775807 := by rw [hn]; exact hV.size
  have EK : Hid (n = vs.length) := hn
  have hB0 : Below w.heap.size w w := Below.refl _ _
  clear hV hn
  obtain ⟨r, hr⟩ : ∃ r, r = valsN vs := ⟨_, rfl⟩
  have HR : Hid (r = valsN vs) := hr
  rw [← hr]
  clear hr
  go_enter Tryz.func93, Tryz.ntmps93
  go_wp2
  go_loop [7] (fun v => ∃ i : Nat, i ≤ n ∧ v = .int .i64 i ∧ allTo (fun v => v.size ≤ 200) vs i) (fun v => n - (intOf v).toNat)
  case atStart => exact ⟨0, by omega, rfl, fun i x hi => by omega⟩
  case round =>
    obtain ⟨i, hi, rfl, hA⟩ := hrel
    have HA : Hid (allTo (fun v => v.size ≤ 200) vs i) := hA
    clear hA
    by_cases hlt : i < n
    · have hlt' : (i : Int) < n := by omega
      obtain ⟨x, hx⟩ : ∃ x, Hid (vs[i]? = some x) := ⟨_, List.getElem?_eq_getElem (by rw [← EK.out]; exact hlt)⟩
      obtain ⟨b, o, rfl, hlb, hc, hxs⟩ := HK.out.2.2 i x hx.out
      unfold maxLen at hxs
      by_cases h2 : (x.size : Int) ≤ 200
      · have hN : Hid (allTo (fun v => v.size ≤ 200) vs (i + 1)) := allTo_next HA.out hx.out (by omega)
        go_wp2
        go_round
        case rel => exact ⟨i + 1, by omega, by go_num, hN.out⟩
        case measure => simp [intOf]; omega
      · have hF : Hid (r = false) := by
          show _ = _
          rw [HR.out, Bool.eq_false_iff]
          exact fun hh => h2 (by have := valsN_iff.1 hh x (List.mem_of_getElem? hx.out); omega)
        go_wp2
        go_ret
        exact ⟨ret_bool hF.out.symm, hB0⟩
    · obtain rfl : i = n := by omega
      have hT : Hid (r = true) := by
        show _ = _
        rw [HR.out]
        exact valsN_iff.2 fun v hm => by obtain ⟨j, hj, e⟩ := idx_of hm; exact HA.out j v (by rw [EK.out]; exact hj) e
      go_wp2
      go_ret
      exact ⟨ret_bool hT.out.symm, hB0⟩

set_option maxHeartbeats 1000000 in
/-- ARE BLOCKS, of any numbers. -/
theorem areBlocks_any (a : Option Addr) (c n : Nat) (cs : List Int) (w : World) (hn : n = cs.length) (hC : IsI w a c cs) :
    Calls Tryz.prog 94 #[.slice a n c] w fun e w' => e = .returned (.bool (kidsN cs)) ∧ Below w.heap.size w w' := by
  have HK : Hid (IsI w a c cs) := hC
  have hm : n ≤ 9223372036854775807 := by rw [hn]; exact hC.size
  have EK : Hid (n = cs.length) := hn
  have hB0 : Below w.heap.size w w := Below.refl _ _
  clear hC hn
  obtain ⟨r, hr⟩ : ∃ r, r = kidsN cs := ⟨_, rfl⟩
  have HR : Hid (r = kidsN cs) := hr
  rw [← hr]
  clear hr
  go_enter Tryz.func94, Tryz.ntmps94
  go_wp2
  go_loop [7] (fun v => ∃ i : Nat, i ≤ n ∧ v = .int .i64 i ∧ allTo (fun c => 10 ≤ c ∧ c ≤ 2047) cs i) (fun v => n - (intOf v).toNat)
  case atStart => exact ⟨0, by omega, rfl, fun i x hi => by omega⟩
  case round =>
    obtain ⟨i, hi, rfl, hA⟩ := hrel
    have HA : Hid (allTo (fun c => 10 ≤ c ∧ c ≤ 2047) cs i) := hA
    clear hA
    by_cases hlt : i < n
    · have hlt' : (i : Int) < n := by omega
      obtain ⟨x, hx⟩ : ∃ x, Hid (cs[i]? = some x) := ⟨_, List.getElem?_eq_getElem (by rw [← EK.out]; exact hlt)⟩
      obtain ⟨b, o, rfl, hlb, hc⟩ := HK.out.2.2 i x hx.out
      have hF' : Hid (¬ (10 ≤ x ∧ x ≤ 2047) → r = false) := fun h => by
        rw [HR.out, Bool.eq_false_iff]
        exact fun hh => h (kidsN_iff.1 hh x (List.mem_of_getElem? hx.out))
      by_cases h1 : 10 ≤ x
      · by_cases h2 : x < 2048
        · have hN : Hid (allTo (fun c => 10 ≤ c ∧ c ≤ 2047) cs (i + 1)) := allTo_next HA.out hx.out ⟨h1, by omega⟩
          go_wp2
          go_round
          case rel => exact ⟨i + 1, by omega, by go_num, hN.out⟩
          case measure => simp [intOf]; omega
        · have hF : Hid (r = false) := hF'.out (by omega)
          go_wp2
          go_ret
          exact ⟨ret_bool hF.out.symm, hB0⟩
      · have hF : Hid (r = false) := hF'.out (by omega)
        go_wp2
        go_ret
        exact ⟨ret_bool hF.out.symm, hB0⟩
    · obtain rfl : i = n := by omega
      have hT : Hid (r = true) := by
        show _ = _
        rw [HR.out]
        exact kidsN_iff.2 fun v hm => by obtain ⟨j, hj, e⟩ := idx_of hm; exact HA.out j v (by rw [EK.out]; exact hj) e
      go_wp2
      go_ret
      exact ⟨ret_bool hT.out.symm, hB0⟩

set_option maxHeartbeats 2000000 in
/-- MAY STAND, at all nodes. -/
theorem mayStand_any (l : Bool) (a a' a'' : Option Addr) (c c' c'' n n' n'' : Nat) (ks vs : List ByteArray) (cs : List Int) (w : World) (hn : n = ks.length) (hn' : n' = vs.length) (hn'' : n'' = cs.length) (hK : IsS w a c ks) (hV : IsS w a' c' vs) (hC : IsI w a'' c'' cs) :
    Calls Tryz.prog 81 #[.agg #[.bool l, .slice a n c, .slice a' n' c', .slice a'' n'' c'']] w fun e w' => e = .returned (.bool (standsN l ks vs cs)) ∧ Below w.heap.size w w' := by
  have hB0 : Below w.heap.size w (w.alloc (.cells #[.bool l, .slice a n c, .slice a' n' c', .slice a'' n'' c''] 76)) := (Below.refl _ _).alloc (Nat.le_refl _) _
  have hX := box4_new w (.bool l) (.slice a n c) (.slice a' n' c') (.slice a'' n'' c'') 76 rfl
  have cK : ∀ W', Below w.heap.size w W' → Calls Tryz.prog 92 #[.slice a n c] W' fun e w' => e = .returned (.bool (keysN ks)) ∧ Below W'.heap.size W' w' := fun W' h => areKeys_any _ _ _ _ _ hn (hK.below h)
  have cV : ∀ W', Below w.heap.size w W' → Calls Tryz.prog 93 #[.slice a' n' c'] W' fun e w' => e = .returned (.bool (valsN vs)) ∧ Below W'.heap.size W' w' := fun W' h => areValues_any _ _ _ _ _ hn' (hV.below h)
  have cC : ∀ W', Below w.heap.size w W' → Calls Tryz.prog 94 #[.slice a'' n'' c''] W' fun e w' => e = .returned (.bool (kidsN cs)) ∧ Below W'.heap.size W' w' := fun W' h => areBlocks_any _ _ _ _ _ hn'' (hC.below h)
  have hm : n ≤ 9223372036854775807 := by rw [hn]; exact hK.size
  have hm' : n' ≤ 9223372036854775807 := by rw [hn']; exact hV.size
  have hm'' : n'' ≤ 9223372036854775807 := by rw [hn'']; exact hC.size
  obtain ⟨r, hr⟩ : ∃ r, r = standsN l ks vs cs := ⟨_, rfl⟩
  have HR : Hid (r = (decide (n ≤ 9) && keysN ks && valsN vs && kidsN cs && shapeN l n n' n'')) := by show _ = _; rw [hr, hn, hn', hn'']; exact standsN_parts l ks vs cs
  have HV0 : Hid (n' = 0 → valsN vs = true) := fun h => by rw [hn'] at h; rw [List.length_eq_zero_iff.1 h]; rfl
  have HC0 : Hid (n'' = 0 → kidsN cs = true) := fun h => by rw [hn''] at h; rw [List.length_eq_zero_iff.1 h]; rfl
  rw [← hr]
  clear hr hn hn' hn'' hK hV hC
  generalize keysN ks = kk at cK HR
  generalize valsN vs = vv at cV HR HV0
  generalize kidsN cs = cc at cC HR HC0
  by_cases h9 : (n : Int) ≤ 9
  · cases kk with
    | true =>
      cases l with
      | true =>
        by_cases e1 : (n' : Int) = n
        · cases vv with
          | true =>
            have hE : Hid (r = ((n'' : Int) == 0)) := by
              show _ = _
              rw [HR.out]
              by_cases h0 : n'' = 0
              · rw [HC0.out h0, decide_eq_true (by omega), shape_leaf.2 ⟨by omega, h0⟩, h0]; rfl
              · rw [Bool.eq_false_iff.2 (fun h => h0 (shape_leaf.1 h).2 : ¬ shapeN true n n' n'' = true), Bool.and_false, (beq_eq_false_iff_ne.2 (by omega) : ((n'' : Int) == 0) = false)]
            clear HR HV0 HC0
            go_enter Tryz.func81, Tryz.ntmps81
            go_wp2_with (first
              | (go_at_call 92; refine (cK _ hB0).mono ?_; rintro e w1 ⟨rfl, hb⟩; replace hX := hX.below hb; obtain ⟨⟨q0, q1, q2, q3⟩, -⟩ := id hX; replace hB0 := Below.tr hB0 hb; clear hb)
              | (go_at_call 93; refine (cV _ hB0).mono ?_; rintro e w1 ⟨rfl, hb⟩; replace hX := hX.below hb; clear q0 q1 q2 q3; obtain ⟨⟨q0, q1, q2, q3⟩, -⟩ := id hX; replace hB0 := Below.tr hB0 hb; clear hb))
            go_ret
            exact ⟨ret_bool hE.out.symm, hB0⟩
          | false =>
            have hE : Hid (r = false) := by show _ = _; rw [HR.out]; simp
            clear HR HV0 HC0
            go_enter Tryz.func81, Tryz.ntmps81
            go_wp2_with (first
              | (go_at_call 92; refine (cK _ hB0).mono ?_; rintro e w1 ⟨rfl, hb⟩; replace hX := hX.below hb; obtain ⟨⟨q0, q1, q2, q3⟩, -⟩ := id hX; replace hB0 := Below.tr hB0 hb; clear hb)
              | (go_at_call 93; refine (cV _ hB0).mono ?_; rintro e w1 ⟨rfl, hb⟩; replace hX := hX.below hb; clear q0 q1 q2 q3; obtain ⟨⟨q0, q1, q2, q3⟩, -⟩ := id hX; replace hB0 := Below.tr hB0 hb; clear hb))
            go_ret
            exact ⟨ret_bool hE.out.symm, hB0⟩
        · have e1' : ((n' : Int) == n) = false := beq_eq_false_iff_ne.2 e1
          have hE : Hid (r = false) := by
            show _ = _
            rw [HR.out, Bool.eq_false_iff.2 (fun h => e1 (by have := (shape_leaf.1 h).1; omega) : ¬ shapeN true n n' n'' = true), Bool.and_false]
          clear HR HV0 HC0
          go_enter Tryz.func81, Tryz.ntmps81
          go_wp2_with (go_at_call 92; refine (cK _ hB0).mono ?_; rintro e w1 ⟨rfl, hb⟩; replace hX := hX.below hb; obtain ⟨⟨q0, q1, q2, q3⟩, -⟩ := id hX; replace hB0 := Below.tr hB0 hb; clear hb)
          go_ret
          exact ⟨ret_bool hE.out.symm, hB0⟩
      | false =>
        by_cases e1 : (n' : Int) = 0
        · by_cases e2 : (0 : Int) < n
          · by_cases e3 : (n'' : Int) = n + 1
            · have hE : Hid (r = cc) := by
                show _ = _
                rw [HR.out, HV0.out (by omega), decide_eq_true (by omega), shape_inner.2 ⟨by omega, by omega, by omega⟩]; simp
              clear HR HV0 HC0
              go_enter Tryz.func81, Tryz.ntmps81
              go_wp2_with (first
                | (go_at_call 92; refine (cK _ hB0).mono ?_; rintro e w1 ⟨rfl, hb⟩; replace hX := hX.below hb; obtain ⟨⟨q0, q1, q2, q3⟩, -⟩ := id hX; replace hB0 := Below.tr hB0 hb; clear hb)
                | (go_at_call 94; refine (cC _ hB0).mono ?_; rintro e w1 ⟨rfl, hb⟩; replace hB0 := Below.tr hB0 hb; clear hb))
              go_ret
              exact ⟨ret_bool hE.out.symm, hB0⟩
            · have e3' : ((n'' : Int) == n + 1) = false := beq_eq_false_iff_ne.2 e3
              have hE : Hid (r = false) := by
                show _ = _
                rw [HR.out, Bool.eq_false_iff.2 (fun h => e3 (by have := (shape_inner.1 h).2.2; omega) : ¬ shapeN false n n' n'' = true), Bool.and_false]
              clear HR HV0 HC0
              go_enter Tryz.func81, Tryz.ntmps81
              go_wp2_with (go_at_call 92; refine (cK _ hB0).mono ?_; rintro e w1 ⟨rfl, hb⟩; replace hX := hX.below hb; obtain ⟨⟨q0, q1, q2, q3⟩, -⟩ := id hX; replace hB0 := Below.tr hB0 hb; clear hb)
              go_ret
              exact ⟨ret_bool hE.out.symm, hB0⟩
          · have hE : Hid (r = false) := by
              show _ = _
              rw [HR.out, Bool.eq_false_iff.2 (fun h => e2 (by have := (shape_inner.1 h).2.1; omega) : ¬ shapeN false n n' n'' = true), Bool.and_false]
            clear HR HV0 HC0
            go_enter Tryz.func81, Tryz.ntmps81
            go_wp2_with (go_at_call 92; refine (cK _ hB0).mono ?_; rintro e w1 ⟨rfl, hb⟩; replace hX := hX.below hb; obtain ⟨⟨q0, q1, q2, q3⟩, -⟩ := id hX; replace hB0 := Below.tr hB0 hb; clear hb)
            go_ret
            exact ⟨ret_bool hE.out.symm, hB0⟩
        · have e1' : ((n' : Int) == 0) = false := beq_eq_false_iff_ne.2 e1
          have hE : Hid (r = false) := by
            show _ = _
            rw [HR.out, Bool.eq_false_iff.2 (fun h => e1 (by have := (shape_inner.1 h).1; omega) : ¬ shapeN false n n' n'' = true), Bool.and_false]
          clear HR HV0 HC0
          go_enter Tryz.func81, Tryz.ntmps81
          go_wp2_with (go_at_call 92; refine (cK _ hB0).mono ?_; rintro e w1 ⟨rfl, hb⟩; replace hX := hX.below hb; obtain ⟨⟨q0, q1, q2, q3⟩, -⟩ := id hX; replace hB0 := Below.tr hB0 hb; clear hb)
          go_ret
          exact ⟨ret_bool hE.out.symm, hB0⟩
    | false =>
      have hE : Hid (r = false) := by show _ = _; rw [HR.out]; simp
      clear HR HV0 HC0
      go_enter Tryz.func81, Tryz.ntmps81
      go_wp2_with (go_at_call 92; refine (cK _ hB0).mono ?_; rintro e w1 ⟨rfl, hb⟩; replace hX := hX.below hb; obtain ⟨⟨q0, q1, q2, q3⟩, -⟩ := id hX; replace hB0 := Below.tr hB0 hb; clear hb)
      go_ret
      exact ⟨ret_bool hE.out.symm, hB0⟩
  · have hE : Hid (r = false) := by
      show _ = _
      rw [HR.out, decide_eq_false (p := n ≤ 9) (by omega)]; simp
    clear HR HV0 HC0
    go_enter Tryz.func81, Tryz.ntmps81
    go_wp2
    go_ret
    exact ⟨ret_bool hE.out.symm, hB0⟩

set_option maxHeartbeats 1000000 in
/-- RIGHT, at all nodes. -/
theorem nodeRight_any (l : Bool) (a a' a'' : Option Addr) (c c' c'' n n' n'' : Nat) (ks vs : List ByteArray) (cs : List Int) (root : Bool) (w : World) (hn : n = ks.length) (hn' : n' = vs.length) (hn'' : n'' = cs.length) (hK : IsS w a c ks) (hV : IsS w a' c' vs) (hC : IsI w a'' c'' cs) :
    Calls Tryz.prog 80 #[.agg #[.bool l, .slice a n c, .slice a' n' c', .slice a'' n'' c''], .bool root] w fun e w' => e = .returned (.bool (rightN l ks vs cs root)) ∧ Below w.heap.size w w' := by
  have hB0 : Below w.heap.size w (w.alloc (.cells #[.bool l, .slice a n c, .slice a' n' c', .slice a'' n'' c''] 76)) := (Below.refl _ _).alloc (Nat.le_refl _) _
  have hX := box4_new w (.bool l) (.slice a n c) (.slice a' n' c') (.slice a'' n'' c'') 76 rfl
  have cS := mayStand_any l a a' a'' c c' c'' n n' n'' ks vs cs _ hn hn' hn'' (hK.below hB0) (hV.below hB0) (hC.below hB0)
  have hm : n ≤ 9223372036854775807 := by rw [hn]; exact hK.size
  have HE : Hid (rightN l ks vs cs root = (standsN l ks vs cs && decide ((n : Int) ≤ 8) && (root || decide (4 ≤ (n : Int))))) := by
    show _ = _
    rw [hn]; unfold rightN
    congr 1
    · congr 1
      rw [decide_eq_decide]; omega
    · congr 1
      rw [decide_eq_decide]; omega
  clear hn hn' hn'' hK hV hC
  cases hs : standsN l ks vs cs with
  | true =>
    rw [hs] at cS HE
    by_cases h8 : (n : Int) ≤ 8
    · cases root with
      | true =>
        go_enter Tryz.func80, Tryz.ntmps80
        go_wp2_with (go_at_call 81; refine cS.mono ?_; rintro e w1 ⟨rfl, hb⟩; obtain ⟨⟨q0, q1, q2, q3⟩, -⟩ := hX.below hb; have hB1 := Below.tr hB0 hb)
        go_ret
        exact ⟨ret_bool (by rw [HE.out]; simp [h8]), hB1⟩
      | false =>
        go_enter Tryz.func80, Tryz.ntmps80
        go_wp2_with (go_at_call 81; refine cS.mono ?_; rintro e w1 ⟨rfl, hb⟩; obtain ⟨⟨q0, q1, q2, q3⟩, -⟩ := hX.below hb; have hB1 := Below.tr hB0 hb)
        go_ret
        exact ⟨ret_bool (by rw [HE.out]; simp [h8]), hB1⟩
    · go_enter Tryz.func80, Tryz.ntmps80
      go_wp2_with (go_at_call 81; refine cS.mono ?_; rintro e w1 ⟨rfl, hb⟩; obtain ⟨⟨q0, q1, q2, q3⟩, -⟩ := hX.below hb; have hB1 := Below.tr hB0 hb)
      go_ret
      exact ⟨ret_bool (by rw [HE.out, decide_eq_false (p := (n : Int) ≤ 8) (by omega)]; simp), hB1⟩
  | false =>
    rw [hs] at cS HE
    go_enter Tryz.func80, Tryz.ntmps80
    go_wp2_with (go_at_call 81; refine cS.mono ?_; rintro e w1 ⟨rfl, hb⟩; obtain ⟨⟨q0, q1, q2, q3⟩, -⟩ := hX.below hb; have hB1 := Below.tr hB0 hb)
    go_ret
    exact ⟨ret_bool (by rw [HE.out]; simp), hB1⟩

end Go.Proofs.YtaecfbfcjaailaaGreat

namespace Go.Proofs.YtaecfbfcjaailaaGreat.Plain
open Go.RowKit
set_option linter.unusedVariables false

/-- A leaf's reading behind so many pairs: an error, or where it stands and what it has. -/
def leafSt (s : ByteArray) : Nat → Int ⊕ (Int × List ByteArray × List ByteArray)
  | 0 => .inr (1, [], [])
  | j + 1 => match leafSt s j with
    | .inl e => .inl e
    | .inr (p, ks, vs) => if cutE s p = 0 then (if cutE s (cutT s p) = 0 then .inr (cutT s (cutT s p), ks ++ [cutS s p], vs ++ [cutS s (cutT s p)]) else .inl (cutE s (cutT s p))) else .inl (cutE s p)

/-- An inner one's. -/
def innSt (s : ByteArray) : Nat → Int ⊕ (Int × List ByteArray × List Int)
  | 0 => .inr (1, [], [])
  | j + 1 => match innSt s j with
    | .inl e => .inl e
    | .inr (p, ks, cs) => if getE s p 2 = 0 then (if cutE s (getT s p 2) = 0 then .inr (cutT s (getT s p 2), ks ++ [cutS s (getT s p 2)], cs ++ [getR s p 2]) else .inl (cutE s (getT s p 2))) else .inl (getE s p 2)

/-- What is read of a leaf's bytes, of an inner one's, of any. -/
def leafR (s : ByteArray) : Int ⊕ (Bool × List ByteArray × List ByteArray × List Int) :=
  if getE s 0 1 = 0 then (match leafSt s (getR s 0 1).toNat with
    | .inl e => .inl e
    | .inr (p, ks, vs) => if p = s.size ∧ rightN true ks vs [] true = true then .inr (true, ks, vs, []) else .inl 4) else .inl (getE s 0 1)

def innR (s : ByteArray) : Int ⊕ (Bool × List ByteArray × List ByteArray × List Int) :=
  if getE s 0 1 = 0 then (match innSt s (getR s 0 1).toNat with
    | .inl e => .inl e
    | .inr (p, ks, cs) => if getE s p 2 = 0 then (if getT s p 2 = s.size ∧ rightN false ks [] (cs ++ [getR s p 2]) true = true then .inr (false, ks, [], cs ++ [getR s p 2]) else .inl 4) else .inl (getE s p 2)) else .inl (getE s 0 1)

def nodeR (kind : Int) (s : ByteArray) : Int ⊕ (Bool × List ByteArray × List ByteArray × List Int) := if kind = 1 then leafR s else if kind = 2 then innR s else .inl 81

/-- An error, once there, stays. -/
theorem leafSt_stuck {s : ByteArray} {j : Nat} {e : Int} (h : leafSt s j = .inl e) (d : Nat) : leafSt s (j + d) = .inl e := by
  induction d with
  | zero => exact h
  | succ d ih => rw [← Nat.add_assoc, leafSt, ih]

theorem innSt_stuck {s : ByteArray} {j : Nat} {e : Int} (h : innSt s j = .inl e) (d : Nat) : innSt s (j + d) = .inl e := by
  induction d with
  | zero => exact h
  | succ d ih => rw [← Nat.add_assoc, innSt, ih]

theorem leafSt_length {s : ByteArray} {j : Nat} {p : Int} {ks vs : List ByteArray} (h : leafSt s j = .inr (p, ks, vs)) : ks.length = j ∧ vs.length = j := by
  induction j generalizing p ks vs with
  | zero => cases h; exact ⟨rfl, rfl⟩
  | succ j ih =>
    rw [leafSt] at h
    split at h
    · cases h
    · rename_i q xs ys hj
      split at h
      · split at h
        · cases h
          have := ih hj
          simp; omega
        · cases h
      · cases h

theorem innSt_length {s : ByteArray} {j : Nat} {p : Int} {ks : List ByteArray} {cs : List Int} (h : innSt s j = .inr (p, ks, cs)) : ks.length = j ∧ cs.length = j := by
  induction j generalizing p ks cs with
  | zero => cases h; exact ⟨rfl, rfl⟩
  | succ j ih =>
    rw [innSt] at h
    split at h
    · cases h
    · rename_i q xs ys hj
      split at h
      · split at h
        · cases h
          have := ih hj
          simp; omega
        · cases h
      · cases h

theorem one_ok {n : Nat} (h : n ≤ 255) : putOk n 1 = true := (putOk_iff _ _).2 ⟨by decide, by decide, by omega, by show (n : Int) < 256; omega⟩
theorem two_ok {c : Int} (h0 : 0 ≤ c) (h : c ≤ 65535) : putOk c 2 = true := (putOk_iff _ _).2 ⟨by decide, by decide, by omega, by show c < 65536; omega⟩

theorem drop_at {α : Type} {l : List α} {j : Nat} {x : α} (h : l[j]? = some x) : l.drop j = x :: l.drop (j + 1) := by
  obtain ⟨hj, e⟩ := List.getElem?_eq_some_iff.1 h
  rw [List.drop_eq_getElem_cons hj, e]

theorem take_at' {α : Type} {l : List α} {j : Nat} {x : α} (h : l[j]? = some x) : l.take (j + 1) = l.take j ++ [x] := by
  rw [List.take_add_one, h]; rfl

theorem leafP_split (xs ys : List ByteArray) (i : Nat) (hl : xs.length = ys.length) : leafP xs ys = leafP (xs.take i) (ys.take i) ++ leafP (xs.drop i) (ys.drop i) := by
  induction xs generalizing ys i with
  | nil =>
    cases ys with
    | nil => cases i <;> rfl
    | cons y ys => simp at hl
  | cons x xs ih =>
    cases ys with
    | nil => simp at hl
    | cons y ys =>
      cases i with
      | zero => rfl
      | succ i =>
        simp only [List.take_succ_cons, List.drop_succ_cons, leafP, List.cons_append]
        rw [← ih ys i (by simpa using hl)]

theorem innP_split (xs : List ByteArray) (ys : List Int) (i : Nat) (hl : xs.length ≤ ys.length) : innP xs ys = innP (xs.take i) (ys.take i) ++ innP (xs.drop i) (ys.drop i) := by
  induction xs generalizing ys i with
  | nil => cases i <;> cases ys <;> simp [innP]
  | cons x xs ih =>
    cases ys with
    | nil => simp at hl
    | cons y ys =>
      cases i with
      | zero => simp [innP]
      | succ i =>
        simp only [List.take_succ_cons, List.drop_succ_cons, innP, List.cons_append]
        rw [← ih ys i (by simpa using hl)]

theorem head_size {n : Nat} (h : n ≤ 255) : (cat [putS (n : Int) 1]).size = 1 := by
  rw [cat_one]
  have := putS_size (one_ok h)
  omega

theorem cat_two_more (xs : List ByteArray) (y z : ByteArray) (zs : List ByteArray) : cat (xs ++ y :: z :: zs) = cat [cat xs, y, cat (z :: zs)] ∧ cat (xs ++ y :: z :: zs) = cat [cat xs ++ y, z, cat zs] ∧ cat (xs ++ [y, z]) = cat xs ++ y ++ z := by
  refine ⟨cat_three _ _ _, ?_, ?_⟩
  · have h := cat_three (xs ++ [y]) z zs
    have e : cat (xs ++ [y]) = cat xs ++ y := by rw [cat_append, cat_one]
    rw [e] at h
    rw [← h]; simp
  · rw [show xs ++ [y, z] = xs ++ ([y] ++ [z]) by rfl, cat_append, cat_append, cat_one, cat_one, ByteArray.append_assoc]

/-- WHAT IS PUT IS READ AGAIN: a leaf. -/
theorem leaf_back {ks vs : List ByteArray} (h : rightN true ks vs [] true = true) : leafR (nodeS true ks vs []) = .inr (true, ks, vs, []) := by
  obtain ⟨hst, h8, _⟩ := rightN_iff.1 h
  obtain ⟨_, hk, _, hv, _, hs⟩ := standsN_iff.1 hst
  obtain ⟨hlen, _⟩ := shape_leaf.1 hs
  obtain ⟨s, hS⟩ : ∃ s, s = nodeS true ks vs [] := ⟨_, rfl⟩
  have hcat : s = cat (putS ks.length 1 :: leafP ks vs) := by rw [hS]; rfl
  have h1 := get_at (s := s) (a := cat []) (n := ks.length) (k := 1) (c := cat (leafP ks vs)) (p := 0) (by rw [hcat]; exact cat_three [] _ _) (one_ok (by omega)) rfl
  have key : ∀ j, j ≤ ks.length → leafSt s j = .inr (((cat (putS ks.length 1 :: leafP (ks.take j) (vs.take j))).size : Nat), ks.take j, vs.take j) := by
    intro j
    induction j with
    | zero =>
      intro _
      rw [leafSt]
      simp only [List.take_zero, leafP]
      rw [head_size (by omega)]; rfl
    | succ j ih =>
      intro hj
      have ej := ih (by omega)
      obtain ⟨k, hkj⟩ : ∃ k, ks[j]? = some k := ⟨_, List.getElem?_eq_getElem (by omega)⟩
      obtain ⟨v, hvj⟩ : ∃ v, vs[j]? = some v := ⟨_, List.getElem?_eq_getElem (by omega)⟩
      have bk : k.size ≤ 65535 := by have := (hk _ (List.mem_of_getElem? hkj)).2; omega
      have bv : v.size ≤ 65535 := by have := hv _ (List.mem_of_getElem? hvj); omega
      have tk := take_at' hkj
      have tv := take_at' hvj
      have hll : (ks.take j).length = (vs.take j).length := by rw [List.length_take, List.length_take, hlen]
      obtain ⟨P, hP⟩ : ∃ P, P = putS (ks.length : Int) 1 :: leafP (ks.take j) (vs.take j) := ⟨_, rfl⟩
      have hpart : s = cat (P ++ textS k :: textS v :: leafP (ks.drop (j + 1)) (vs.drop (j + 1))) := by
        rw [hcat, leafP_split ks vs j (by omega), drop_at hkj, drop_at hvj, hP]; rfl
      obtain ⟨e1, e2, e3⟩ := cat_two_more P (textS k) (textS v) (leafP (ks.drop (j + 1)) (vs.drop (j + 1)))
      obtain ⟨c1, c2, c3⟩ := cut_at (hpart.trans e1) bk (p := ((cat P).size : Int)) rfl
      obtain ⟨d1, d2, d3⟩ := cut_at (hpart.trans e2) bv (p := ((cat P ++ textS k).size : Int)) rfl
      have efin : cat P ++ textS k ++ textS v = cat (putS ks.length 1 :: leafP (ks.take (j + 1)) (vs.take (j + 1))) := by
        rw [← e3, tk, tv, leafP_snoc hll, hP]; rfl
      rw [leafSt, ej]
      simp only []
      rw [← hP, if_pos c1, c2, c3, if_pos d1, d2, d3, efin, ← tk, ← tv]
  have hfin := key ks.length (Nat.le_refl _)
  rw [List.take_length, List.take_of_length_le (by omega), ← hcat] at hfin
  rw [← hS]
  unfold leafR
  have e0 : getE s 0 1 = 0 := h1.1
  have e1 : getR s 0 1 = ks.length := h1.2.1
  rw [if_pos e0, e1, Int.toNat_natCast, hfin]
  exact if_pos ⟨rfl, h⟩

/-- An inner one. -/
theorem inn_back {ks : List ByteArray} {cs : List Int} (h : rightN false ks [] cs true = true) : innR (nodeS false ks [] cs) = .inr (false, ks, [], cs) := by
  obtain ⟨hst, h8, _⟩ := rightN_iff.1 h
  obtain ⟨_, hk, _, _, hc, hs⟩ := standsN_iff.1 hst
  obtain ⟨_, hk1, hlen⟩ := shape_inner.1 hs
  obtain ⟨s, hS⟩ : ∃ s, s = nodeS false ks [] cs := ⟨_, rfl⟩
  obtain ⟨z, hz⟩ : ∃ z, cs[ks.length]? = some z := ⟨_, List.getElem?_eq_getElem (by omega)⟩
  have hgz : cs.getD ks.length 0 = z := by rw [List.getD_eq_getElem?_getD, hz]; rfl
  have hcat : s = cat (putS ks.length 1 :: (innP ks cs ++ [putS z 2])) := by rw [hS]; unfold nodeS nodeP; rw [hgz]; rfl
  have bc : ∀ c ∈ cs, putOk c 2 = true := fun c hm => two_ok (by have := (hc c hm).1; omega) (by have := (hc c hm).2; omega)
  have h1 := get_at (s := s) (a := cat []) (n := ks.length) (k := 1) (c := cat (innP ks cs ++ [putS z 2])) (p := 0) (by rw [hcat]; exact cat_three [] _ _) (one_ok (by omega)) rfl
  have key : ∀ j, j ≤ ks.length → innSt s j = .inr (((cat (putS ks.length 1 :: innP (ks.take j) (cs.take j))).size : Nat), ks.take j, cs.take j) := by
    intro j
    induction j with
    | zero =>
      intro _
      rw [innSt]
      simp only [List.take_zero, innP]
      rw [head_size (by omega)]; rfl
    | succ j ih =>
      intro hj
      have ej := ih (by omega)
      obtain ⟨k, hkj⟩ : ∃ k, ks[j]? = some k := ⟨_, List.getElem?_eq_getElem (by omega)⟩
      obtain ⟨c, hcj⟩ : ∃ v, cs[j]? = some v := ⟨_, List.getElem?_eq_getElem (by omega)⟩
      have bk : k.size ≤ 65535 := by have := (hk _ (List.mem_of_getElem? hkj)).2; omega
      have tk := take_at' hkj
      have tv := take_at' hcj
      have hll : (ks.take j).length = (cs.take j).length := by rw [List.length_take, List.length_take]; omega
      obtain ⟨P, hP⟩ : ∃ P, P = putS (ks.length : Int) 1 :: innP (ks.take j) (cs.take j) := ⟨_, rfl⟩
      have hpart : s = cat (P ++ putS c 2 :: textS k :: (innP (ks.drop (j + 1)) (cs.drop (j + 1)) ++ [putS z 2])) := by
        rw [hcat, innP_split ks cs j (by omega), drop_at hkj, drop_at hcj, hP]
        simp [innP]
      obtain ⟨e1, e2, e3⟩ := cat_two_more P (putS c 2) (textS k) (innP (ks.drop (j + 1)) (cs.drop (j + 1)) ++ [putS z 2])
      obtain ⟨c1, c2, c3⟩ := get_at (k := 2) (hpart.trans e1) (bc c (List.mem_of_getElem? hcj)) (p := ((cat P).size : Int)) rfl
      obtain ⟨d1, d2, d3⟩ := cut_at (hpart.trans e2) bk (p := ((cat P ++ putS c 2).size : Int)) rfl
      have efin : cat P ++ putS c 2 ++ textS k = cat (putS ks.length 1 :: innP (ks.take (j + 1)) (cs.take (j + 1))) := by
        rw [← e3, tk, tv, innP_snoc hll, hP]; rfl
      have c1' : getE s ((cat P).size : Int) 2 = 0 := c1
      have c2' : getR s ((cat P).size : Int) 2 = c := c2
      have c3' : getT s ((cat P).size : Int) 2 = ((cat P ++ putS c 2).size : Nat) := c3
      rw [innSt, ej]
      simp only []
      rw [← hP, if_pos c1', c2', c3', if_pos d1, d2, d3, efin, ← tk, ← tv]
  have hfin := key ks.length (Nat.le_refl _)
  rw [List.take_length] at hfin
  have hct : cs = cs.take ks.length ++ [z] := by
    have := take_at' hz
    rw [← this, List.take_of_length_le (by omega)]
  have hin : innP ks (cs.take ks.length) = innP ks cs := by
    conv => rhs; rw [hct]
    exact (innP_more ks _ _ (by rw [List.length_take]; omega)).symm
  rw [hin] at hfin
  obtain ⟨P, hP⟩ : ∃ P, P = putS (ks.length : Int) 1 :: innP ks cs := ⟨_, rfl⟩
  have hend : s = cat [cat P, putS z 2, cat []] := by
    rw [hcat, ← cat_three, hP]; rfl
  obtain ⟨f1, f2, f3⟩ := get_at (k := 2) hend (bc z (List.mem_of_getElem? hz)) (p := ((cat P).size : Int)) rfl
  have f1' : getE s ((cat P).size : Int) 2 = 0 := f1
  have f2' : getR s ((cat P).size : Int) 2 = z := f2
  have f3' : getT s ((cat P).size : Int) 2 = (s.size : Nat) := by
    have : getT s ((cat P).size : Int) 2 = ((cat P ++ putS z 2).size : Nat) := f3
    have e2 : cat P ++ putS z 2 = s := by
      rw [hcat, hP, ← cat_one (putS z 2), ← cat_append]
      rw [cat_one]; rfl
    rw [this, e2]
  rw [← hS]
  unfold innR
  have e0 : getE s 0 1 = 0 := h1.1
  have e1 : getR s 0 1 = ks.length := h1.2.1
  rw [if_pos e0, e1, Int.toNat_natCast, hfin]
  show (if getE s ((cat (putS (ks.length : Int) 1 :: innP ks cs)).size : Int) 2 = 0 then _ else _) = _
  rw [← hP, if_pos f1', f2', f3', ← hct]
  exact if_pos ⟨rfl, h⟩

end Go.Proofs.YtaecfbfcjaailaaGreat.Plain

namespace Go.Proofs.YtaecfbfcjaailaaGreat.Plain
open Go.RowKit
set_option linter.unusedVariables false

theorem get_num {s : ByteArray} {p k : Nat} (h : getE s p k = 0) : getR s p k = getV s p k ∧ getT s p k = ((p + k : Nat) : Int) ∧ p + k ≤ s.size ∧ 1 ≤ k ∧ k ≤ 6 := by
  obtain ⟨h1, h2, h3, h4⟩ := getE_ok h
  refine ⟨?_, ?_, by omega, by omega, by omega⟩
  · unfold getR; rw [if_pos h]; simp
  · unfold getT; rw [if_pos h]; omega

theorem head_bytes {s : ByteArray} {n : Nat} (h : getE s 0 1 = 0) (hn : getR s 0 1 = n) : putS (n : Int) 1 = s.extract 0 1 := by
  have h' : getE s ((0 : Nat) : Int) ((1 : Nat) : Int) = 0 := h
  obtain ⟨a, _, b, _, _⟩ := get_num h'
  have := (got_put (s := s) (p := 0) (k := 1) (by omega) (by omega) (by omega)).2
  rw [← a] at this
  rw [← hn]
  exact this

theorem leafSt_bytes {s : ByteArray} (h0 : 1 ≤ s.size) {j : Nat} {p : Int} {ks vs : List ByteArray} (h : leafSt s j = .inr (p, ks, vs)) : ∃ q : Nat, p = q ∧ 1 ≤ q ∧ q ≤ s.size ∧ cat (leafP ks vs) = s.extract 1 q := by
  induction j generalizing p ks vs with
  | zero =>
    cases h
    refine ⟨1, rfl, Nat.le_refl _, h0, ?_⟩
    apply bytes_ext
    rw [extract_data']
    simp [leafP, cat]
  | succ j ih =>
    rw [leafSt] at h
    split at h
    · cases h
    · rename_i p0 xs ys hj
      obtain ⟨q, rfl, hq1, hq2, hq⟩ := ih hj
      obtain ⟨hl1, hl2⟩ := leafSt_length hj
      split at h
      · rename_i c1
        split at h
        · rename_i c2
          cases h
          obtain ⟨q1, e1, a1, a2, _, _, a3⟩ := cut_text c1
          rw [e1] at c2 ⊢
          obtain ⟨q2, e2, b1, b2, _, _, b3⟩ := cut_text c2
          refine ⟨q2, e2, by omega, b2, ?_⟩
          rw [leafP_snoc (by omega), (cat_two_more _ _ _ []).2.2, hq, a3, b3, extract_join _ _ _ _ (by omega) (by omega), extract_join _ _ _ _ (by omega) (by omega)]
        · cases h
      · cases h

theorem innSt_bytes {s : ByteArray} (h0 : 1 ≤ s.size) {j : Nat} {p : Int} {ks : List ByteArray} {cs : List Int} (h : innSt s j = .inr (p, ks, cs)) : ∃ q : Nat, p = q ∧ 1 ≤ q ∧ q ≤ s.size ∧ cat (innP ks cs) = s.extract 1 q := by
  induction j generalizing p ks cs with
  | zero =>
    cases h
    refine ⟨1, rfl, Nat.le_refl _, h0, ?_⟩
    apply bytes_ext
    rw [extract_data']
    simp [innP, cat]
  | succ j ih =>
    rw [innSt] at h
    split at h
    · cases h
    · rename_i p0 xs ys hj
      obtain ⟨q, rfl, hq1, hq2, hq⟩ := ih hj
      obtain ⟨hl1, hl2⟩ := innSt_length hj
      split at h
      · rename_i c1
        split at h
        · rename_i c2
          cases h
          have c1' : getE s (q : Int) ((2 : Nat) : Int) = 0 := c1
          obtain ⟨r1, t1, t2, _, _⟩ := get_num c1'
          have r1' : getR s (q : Int) 2 = getV s q 2 := r1
          have t1' : getT s (q : Int) 2 = ((q + 2 : Nat) : Int) := t1
          have g3 := (got_put (s := s) (p := q) (k := 2) (by omega) (by omega) t2).2
          rw [t1'] at c2 ⊢
          obtain ⟨q2, e2, b1, b2, _, _, b3⟩ := cut_text c2
          refine ⟨q2, e2, by omega, b2, ?_⟩
          rw [innP_snoc (by omega), (cat_two_more _ _ _ []).2.2, hq, r1', b3]
          have g3' : putS (getV s q 2) 2 = s.extract q (q + 2) := g3
          rw [g3', extract_join _ _ _ _ (by omega) (by omega), extract_join _ _ _ _ (by omega) (by omega)]
        · cases h
      · cases h

theorem empty_short {s : ByteArray} (h : getE s 0 1 = 0) : 1 ≤ s.size := by
  have h' : getE s ((0 : Nat) : Int) ((1 : Nat) : Int) = 0 := h
  have := (get_num h').2.2.1
  omega

theorem getR_nat {s : ByteArray} (h : getE s 0 1 = 0) : getR s 0 1 = (((getR s 0 1).toNat : Nat) : Int) := by
  have h' : getE s ((0 : Nat) : Int) ((1 : Nat) : Int) = 0 := h
  have a := (get_num h').1
  have b := getV_bd s 0 1
  have a' : getR s 0 1 = getV s 0 1 := a
  omega

/-- WHAT IS READ, PUT, IS THE BYTES: a leaf. -/
theorem leaf_once {s : ByteArray} {x : Bool × List ByteArray × List ByteArray × List Int} (h : leafR s = .inr x) : x.1 = true ∧ rightN x.1 x.2.1 x.2.2.1 x.2.2.2 true = true ∧ nodeS x.1 x.2.1 x.2.2.1 x.2.2.2 = s := by
  unfold leafR at h
  split at h
  · rename_i h0
    split at h
    · cases h
    · rename_i p ks vs hst
      split at h
      · rename_i hp
        cases h
        obtain ⟨q, rfl, hq1, hq2, hq⟩ := leafSt_bytes (empty_short h0) hst
        obtain ⟨hl1, hl2⟩ := leafSt_length hst
        refine ⟨rfl, hp.2, ?_⟩
        have hqs : q = s.size := by have := hp.1; omega
        show cat (putS (ks.length : Int) 1 :: leafP ks vs) = s
        rw [show putS (ks.length : Int) 1 :: leafP ks vs = [putS (ks.length : Int) 1] ++ leafP ks vs by rfl, cat_append, cat_one, hq, hqs, head_bytes h0 (by rw [hl1]; exact getR_nat h0), extract_join _ _ _ _ (by omega) (by omega), extract_all]
      · cases h
  · cases h

/-- An inner one. -/
theorem inn_once {s : ByteArray} {x : Bool × List ByteArray × List ByteArray × List Int} (h : innR s = .inr x) : x.1 = false ∧ rightN x.1 x.2.1 x.2.2.1 x.2.2.2 true = true ∧ nodeS x.1 x.2.1 x.2.2.1 x.2.2.2 = s := by
  unfold innR at h
  split at h
  · rename_i h0
    split at h
    · cases h
    · rename_i p ks cs hst
      split at h
      · rename_i hg
        split at h
        · rename_i hp
          cases h
          obtain ⟨q, rfl, hq1, hq2, hq⟩ := innSt_bytes (empty_short h0) hst
          obtain ⟨hl1, hl2⟩ := innSt_length hst
          have hg' : getE s (q : Int) ((2 : Nat) : Int) = 0 := hg
          obtain ⟨r1, t1, t2, _, _⟩ := get_num hg'
          have r1' : getR s (q : Int) 2 = getV s q 2 := r1
          have t1' : getT s (q : Int) 2 = ((q + 2 : Nat) : Int) := t1
          have g3 : putS (getV s q 2) 2 = s.extract q (q + 2) := (got_put (s := s) (p := q) (k := 2) (by omega) (by omega) t2).2
          refine ⟨rfl, hp.2, ?_⟩
          have hqs : q + 2 = s.size := by have := hp.1; rw [t1'] at this; omega
          have hgd : (cs ++ [getR s (q : Int) 2]).getD ks.length 0 = getR s (q : Int) 2 := by
            rw [List.getD_eq_getElem?_getD, List.getElem?_append_right (by omega), show ks.length - cs.length = 0 by omega]; rfl
          have hin : innP ks (cs ++ [getR s (q : Int) 2]) = innP ks cs := innP_more ks cs _ (by omega)
          show cat (putS (ks.length : Int) 1 :: (innP ks (cs ++ [getR s (q : Int) 2]) ++ [putS ((cs ++ [getR s (q : Int) 2]).getD ks.length 0) 2])) = s
          rw [hgd, hin, r1', show putS (ks.length : Int) 1 :: (innP ks cs ++ [putS (getV s q 2) 2]) = [putS (ks.length : Int) 1] ++ (innP ks cs ++ [putS (getV s q 2) 2]) by rfl, cat_append, cat_append, cat_one, cat_one, hq, g3, hqs, extract_join _ _ _ _ (by omega) (by omega), head_bytes h0 (by rw [hl1]; exact getR_nat h0), extract_join _ _ _ _ (by omega) (by omega), extract_all]
        · cases h
      · cases h
  · cases h

/-- WHAT IS PUT IS READ AGAIN; WHAT IS READ, PUT, IS THE BYTES. -/
theorem node_back {l : Bool} {ks vs : List ByteArray} {cs : List Int} (h : rightN l ks vs cs true = true) : nodeR (if l = true then 1 else 2) (nodeS l ks vs cs) = .inr (l, ks, vs, cs) := by
  obtain ⟨hst, _, _⟩ := rightN_iff.1 h
  obtain ⟨_, _, _, _, _, hs⟩ := standsN_iff.1 hst
  cases l with
  | true =>
    obtain rfl : cs = [] := List.length_eq_zero_iff.1 (shape_leaf.1 hs).2
    have e : nodeR 1 (nodeS true ks vs []) = leafR (nodeS true ks vs []) := by unfold nodeR; rw [if_pos rfl]
    rw [if_pos rfl, e]
    exact leaf_back h
  | false =>
    obtain rfl : vs = [] := List.length_eq_zero_iff.1 (shape_inner.1 hs).1
    have e : nodeR 2 (nodeS false ks [] cs) = innR (nodeS false ks [] cs) := by unfold nodeR; rw [if_neg (by decide), if_pos rfl]
    rw [if_neg (by decide), e]
    exact inn_back h

theorem node_once {kind : Int} {s : ByteArray} {x : Bool × List ByteArray × List ByteArray × List Int} (h : nodeR kind s = .inr x) : rightN x.1 x.2.1 x.2.2.1 x.2.2.2 true = true ∧ nodeS x.1 x.2.1 x.2.2.1 x.2.2.2 = s ∧ (kind = 1 ∨ kind = 2) ∧ (x.1 = true ↔ kind = 1) := by
  unfold nodeR at h
  split at h
  · rename_i hk
    obtain ⟨h1, h2, h3⟩ := leaf_once h
    exact ⟨h2, h3, .inl hk, by rw [h1]; simp [hk]⟩
  · split at h
    · rename_i hk hk2
      obtain ⟨h1, h2, h3⟩ := inn_once h
      exact ⟨h2, h3, .inr hk2, by rw [h1]; simp [hk]⟩
    · cases h

/-! How long the bytes are -/

theorem leafP_size {ks vs : List ByteArray} (hk : ∀ k ∈ ks, k.size ≤ 32) (hv : ∀ v ∈ vs, v.size ≤ 200) : (cat (leafP ks vs)).size ≤ 236 * ks.length := by
  induction ks generalizing vs with
  | nil => cases vs <;> simp [leafP, cat_size]
  | cons k ks ih =>
    cases vs with
    | nil => simp [leafP, cat_size]
    | cons v vs =>
      have h1 := hk k (by simp)
      have h2 := hv v (by simp)
      have h3 := ih (fun x hx => hk x (by simp [hx])) (vs := vs) (fun x hx => hv x (by simp [hx]))
      rw [leafP, cat_size]
      rw [cat_size] at h3
      simp only [List.map_cons, List.sum_cons, List.length_cons]
      rw [textS_size (by omega), textS_size (by omega)]
      omega

theorem innP_size {ks : List ByteArray} {cs : List Int} (hk : ∀ k ∈ ks, k.size ≤ 32) (hc : ∀ c ∈ cs, putOk c 2 = true) : (cat (innP ks cs)).size ≤ 36 * ks.length := by
  induction ks generalizing cs with
  | nil => cases cs <;> simp [innP, cat_size]
  | cons k ks ih =>
    cases cs with
    | nil => simp [innP, cat_size]
    | cons c cs =>
      have h1 := hk k (by simp)
      have h2 := putS_size (hc c (by simp))
      have h3 := ih (fun x hx => hk x (by simp [hx])) (cs := cs) (fun x hx => hc x (by simp [hx]))
      rw [innP, cat_size]
      rw [cat_size] at h3
      simp only [List.map_cons, List.sum_cons, List.length_cons]
      rw [textS_size (by omega)]
      omega

theorem node_size {l : Bool} {ks vs : List ByteArray} {cs : List Int} (h : rightN l ks vs cs true = true) : (nodeS l ks vs cs).size ≤ 4000 := by
  obtain ⟨hst, h8, _⟩ := rightN_iff.1 h
  obtain ⟨_, hk, _, hv, hc, hs⟩ := standsN_iff.1 hst
  have hone := putS_size (one_ok (n := ks.length) (by omega))
  have bc : ∀ c ∈ cs, putOk c 2 = true := fun c hm => two_ok (by have := (hc c hm).1; omega) (by have := (hc c hm).2; omega)
  cases l with
  | true =>
    have h1 := leafP_size (fun k hm => (hk k hm).2) hv
    show (cat (putS (ks.length : Int) 1 :: leafP ks vs)).size ≤ 4000
    rw [show putS (ks.length : Int) 1 :: leafP ks vs = [putS (ks.length : Int) 1] ++ leafP ks vs by rfl, cat_append, cat_one, ByteArray.size_append]
    omega
  | false =>
    obtain ⟨_, _, hlen⟩ := shape_inner.1 hs
    have h1 := innP_size (fun k hm => (hk k hm).2) bc
    obtain ⟨z, hz⟩ : ∃ z, cs[ks.length]? = some z := ⟨_, List.getElem?_eq_getElem (by omega)⟩
    have hgz : cs.getD ks.length 0 = z := by rw [List.getD_eq_getElem?_getD, hz]; rfl
    have h2 := putS_size (bc z (List.mem_of_getElem? hz))
    show (cat (putS (ks.length : Int) 1 :: (innP ks cs ++ [putS (cs.getD ks.length 0) 2]))).size ≤ 4000
    rw [hgz, show putS (ks.length : Int) 1 :: (innP ks cs ++ [putS z 2]) = [putS (ks.length : Int) 1] ++ (innP ks cs ++ [putS z 2]) by rfl, cat_append, cat_append, cat_one, cat_one, ByteArray.size_append, ByteArray.size_append]
    omega

end Go.Proofs.YtaecfbfcjaailaaGreat.Plain

namespace Go.Proofs.YtaecfbfcjaailaaGreat
open Go.RowKit Plain Anylast
set_option linter.unusedVariables false

/-! What the reader reads is what is to be read -/

theorem rd_leafSt (s : ByteArray) (j : Nat) : match leafSt s j with
    | .inl e => (rdLeaf s 1 0 j).e = e ∧ e ≠ 0
    | .inr (p, ks, vs) => rdLeaf s 1 0 j = ⟨p, 0, ks, vs⟩ := by
  induction j with
  | zero => rfl
  | succ j ih =>
    rw [leafSt]
    cases h : leafSt s j with
    | inl e =>
      rw [h] at ih
      obtain ⟨h1, h2⟩ := ih
      simp only [rdLeaf, h1]
      refine ⟨?_, h2⟩
      unfold rdE
      rw [if_neg h2, if_neg h2]
    | inr x =>
      obtain ⟨p, ks, vs⟩ := x
      rw [h] at ih
      simp only at ih ⊢
      simp only [rdLeaf, ih]
      unfold rdE rdP rdS
      simp only [if_true]
      by_cases c1 : cutE s p = 0
      · simp only [c1, if_true]
        by_cases c2 : cutE s (cutT s p) = 0
        · simp only [c2, if_true]
        · rw [if_neg c2]
          exact ⟨rfl, c2⟩
      · rw [if_neg c1]
        simp only [if_neg c1]
        exact ⟨trivial, c1⟩

theorem rd_innSt (s : ByteArray) (j : Nat) : match innSt s j with
    | .inl e => (rdInn s 1 0 j).e = e ∧ e ≠ 0
    | .inr (p, ks, cs) => rdInn s 1 0 j = ⟨getT s p 2, getE s p 2, ks, cs ++ [getR s p 2]⟩ := by
  induction j with
  | zero => rfl
  | succ j ih =>
    rw [innSt]
    cases h : innSt s j with
    | inl e =>
      rw [h] at ih
      obtain ⟨h1, h2⟩ := ih
      simp only [rdInn, h1]
      refine ⟨?_, h2⟩
      unfold rnE rdE
      rw [if_neg h2, if_neg h2]
    | inr x =>
      obtain ⟨p, ks, cs⟩ := x
      rw [h] at ih
      simp only at ih ⊢
      simp only [rdInn, ih]
      by_cases c1 : getE s p 2 = 0
      · rw [if_pos c1]
        by_cases c2 : cutE s (getT s p 2) = 0
        · rw [if_pos c2]
          simp only [rdE, rdP, rdS, rnE, rnP, rnR, c1, c2, if_true]
        · rw [if_neg c2]
          simp only [rdE, rdP, rnE, c1, if_true, if_neg c2]
          exact ⟨trivial, c2⟩
      · rw [if_neg c1]
        simp only [rdE, rdP, rnE, if_neg c1]
        exact ⟨trivial, c1⟩

theorem rn_one {s : ByteArray} (h : getE s 0 1 = 0) : rnP s 0 0 1 = 1 ∧ rnE s 0 0 1 = 0 ∧ rnR s 0 0 1 = getR s 0 1 := by
  unfold rnP rnE rnR
  rw [if_pos rfl, if_pos rfl, if_pos rfl, h]
  have h' : getE s ((0 : Nat) : Int) ((1 : Nat) : Int) = 0 := h
  exact ⟨(get_num h').2.1, rfl, rfl⟩

theorem rn_bad {s : ByteArray} (h : ¬ getE s 0 1 = 0) : rnE s 0 0 1 = getE s 0 1 ∧ rnR s 0 0 1 = 0 := by
  unfold rnE rnR
  rw [if_pos rfl, if_pos rfl]
  exact ⟨rfl, by unfold getR; rw [if_neg h]⟩

theorem rn_count (s : ByteArray) : ∃ c : Nat, rnR s 0 0 1 = c ∧ c ≤ 255 := by
  by_cases h : getE s 0 1 = 0
  · rw [(rn_one h).2.2]
    have h' : getE s ((0 : Nat) : Int) ((1 : Nat) : Int) = 0 := h
    have a : getR s 0 1 = getV s 0 1 := (get_num h').1
    have b := getV_bd s 0 1
    have c : pw 1 = 256 := by decide
    exact ⟨(getR s 0 1).toNat, by omega, by omega⟩
  · rw [(rn_bad h).2]
    exact ⟨0, rfl, by omega⟩

/-- What the reader has at its end, of a leaf and of an inner node. -/
def endL (s : ByteArray) : RdL := rdLeaf s (rnP s 0 0 1) (rnE s 0 0 1) (rnR s 0 0 1).toNat
def endI (s : ByteArray) : RdI := rdInn s (rnP s 0 0 1) (rnE s 0 0 1) (rnR s 0 0 1).toNat

theorem leafR_end (s : ByteArray) : leafR s = if (endL s).e = 0 then (if (endL s).p = s.size ∧ rightN true (endL s).ks (endL s).vs [] true = true then .inr (true, (endL s).ks, (endL s).vs, []) else .inl 4) else .inl (endL s).e := by
  by_cases h : getE s 0 1 = 0
  · obtain ⟨e1, e2, e3⟩ := rn_one h
    have hE : endL s = rdLeaf s 1 0 (getR s 0 1).toNat := by unfold endL; rw [e1, e2, e3]
    have k := rd_leafSt s (getR s 0 1).toNat
    rw [← hE] at k
    unfold leafR
    rw [if_pos h]
    cases hl : leafSt s (getR s 0 1).toNat with
    | inl e =>
      rw [hl] at k
      obtain ⟨k1, k2⟩ := k
      rw [k1, if_neg k2]
    | inr x =>
      obtain ⟨p, ks, vs⟩ := x
      rw [hl] at k
      simp only at k
      rw [k]
      simp only [if_true]
  · obtain ⟨e1, e2⟩ := rn_bad h
    have hE : (endL s).e = getE s 0 1 := by unfold endL; rw [e2]; exact e1
    unfold leafR
    rw [if_neg h, hE, if_neg h]

theorem innR_end (s : ByteArray) : innR s = if (endI s).e = 0 then (if (endI s).p = s.size ∧ rightN false (endI s).ks [] (endI s).cs true = true then .inr (false, (endI s).ks, [], (endI s).cs) else .inl 4) else .inl (endI s).e := by
  by_cases h : getE s 0 1 = 0
  · obtain ⟨e1, e2, e3⟩ := rn_one h
    have hE : endI s = rdInn s 1 0 (getR s 0 1).toNat := by unfold endI; rw [e1, e2, e3]
    have k := rd_innSt s (getR s 0 1).toNat
    rw [← hE] at k
    unfold innR
    rw [if_pos h]
    cases hl : innSt s (getR s 0 1).toNat with
    | inl e =>
      rw [hl] at k
      obtain ⟨k1, k2⟩ := k
      rw [k1, if_neg k2]
    | inr x =>
      obtain ⟨p, ks, vs⟩ := x
      rw [hl] at k
      simp only at k
      rw [k]
  · obtain ⟨e1, e2⟩ := rn_bad h
    have hE : (endI s).e = getE s 0 1 := by
      unfold endI
      rw [e2]
      show rnE s _ (rnE s 0 0 1) 2 = _
      rw [e1]
      unfold rnE
      rw [if_neg h]
    unfold innR
    rw [if_neg h, hE, if_neg h]

set_option maxRecDepth 20000 in
set_option maxHeartbeats 1000000 in
/-- NODE, of the reader at its start: a leaf. -/
theorem rnodeL_any (r : Nat) (s : ByteArray) (w : World) (b : Box3 w r (.string s) (.int .i64 0) (.int .i64 0)) (hs : s.size ≤ maxLen) :
    Calls Tryz.prog 91 #[.pointer (some ⟨r, 0, none⟩), .int .i64 1] w fun x w' => ∃ n a d n' a' d' n'' a'' d'', x = .returned (.agg #[.bool true, .slice a n d, .slice a' n' d', .slice a'' n'' d'']) ∧ n = (endL s).ks.length ∧ n' = (endL s).vs.length ∧ n'' = ([] : List Int).length ∧
      IsS w' a d (endL s).ks ∧ IsS w' a' d' (endL s).vs ∧ IsI w' a'' d'' [] ∧ From w.heap.size a ∧ From w.heap.size a' ∧ From w.heap.size a'' ∧ Box3 w' r (.string s) (.int .i64 (endL s).p) (.int .i64 (endL s).e) ∧ Turns (fun k => k = r) w w' := by
  have hrw : r < w.heap.size := b.lt
  obtain ⟨W0, hW0⟩ : ∃ W0, W0 = w.alloc (.cells #[.bool false, .slice none 0 0, .slice none 0 0, .slice none 0 0] 76) := ⟨_, rfl⟩
  have b00 : Box4 W0 w.heap.size (.bool false) (.slice none 0 0) (.slice none 0 0) (.slice none 0 0) := by rw [hW0]; exact box4_new _ _ _ _ _ _ rfl
  have hB00 : Below w.heap.size w W0 := by rw [hW0]; exact (Below.refl _ _).alloc (Nat.le_refl _) _
  obtain ⟨V1, b1, t1, hsz, c1⟩ := rnumber_any r s 0 0 1 W0 (b.below hB00) hs
  obtain ⟨c, hc, hc2⟩ := rn_count s
  have hE : endL s = rdLeaf s (rnP s 0 0 1) (rnE s 0 0 1) c := by unfold endL; rw [hc]; rfl
  rw [hc] at c1
  have c2 := rleaf_any r c s (rnP s 0 0 1) (rnE s 0 0 1) V1 b1 hs hc2
  rw [← hE] at c2
  obtain ⟨l1, l2⟩ := rdLeaf_len s (rnP s 0 0 1) (rnE s 0 0 1) c
  rw [← hE] at l1 l2
  have b01 := b00.turns t1 (by omega)
  have hwV : w.heap.size < V1.heap.size := b01.lt
  have T1 : Turns (fun k => k = r ∨ w.heap.size ≤ k) w V1 := (Turns.of_below hB00).trans (t1.mono fun k hk => .inl hk)
  have L1 : Hid ((endL s).ks.length = c) := l1
  have L2 : Hid ((endL s).vs.length = c) := l2
  clear hE hc b b1 b00 hsz t1 l1 l2
  generalize endL s = R at *
  go_enter Tryz.func91, Tryz.ntmps91
  go_wp2_with (first
    | (go_at_call 116; rw [← hW0]; refine c1.mono ?_; rintro y w1 ⟨rfl, hw1⟩; have hw1' := hw1.symm; subst hw1'; clear hw1)
    | (go_at_call 117; refine c2.mono ?_; rintro y w2 ⟨a, d, a', d', rfl, i1, i2, j1, j2, b2, t2⟩; have I1 : Hid (IsS w2 a d R.ks) := i1; have I2 : Hid (IsS w2 a' d' R.vs) := i2; have B2 : Hid (Box3 w2 r (.string s) (.int .i64 R.p) (.int .i64 R.e)) := b2; have T2 : Hid (Turns (fun k => k = r) V1 w2) := t2; have J1 : Hid (From V1.heap.size a) := j1; have J2 : Hid (From V1.heap.size a') := j2; obtain ⟨⟨r0, r1, r2, r3⟩, g0, g1, g2, g3⟩ := b01.turns t2 (by omega); clear i1 i2 b2 t2 j1 j2))
  have T4 := turns_put4 w2 w.heap.size (.bool true) (.slice a c d) (.slice a' c d') (.slice none 0 0)
  refine bodyPost_ret (v := .agg #[.bool true, .slice a c d, .slice a' c d', .slice none 0 0]) (by simp [results, Tryz.results91, go_sem, r0, r1, r2, r3]) rfl ⟨c, a, d, c, a', d', 0, none, 0, rfl, L1.out.symm, L2.out.symm, rfl, I1.out.turns T4 (fun x hx e => by have := J1.out x hx; omega), I2.out.turns T4 (fun x hx e => by have := J2.out x hx; omega), isI_nil _, J1.out.mono (by omega), J2.out.mono (by omega), from_nil _, B2.out.turns T4 (by omega), ?_⟩
  exact ((T1.trans (T2.out.mono fun k hk => .inl hk)).trans (T4.mono fun k hk => .inr (by omega))).mono' fun k hk hh => by rcases hh with h | h <;> omega

set_option maxRecDepth 20000 in
set_option maxHeartbeats 1000000 in
/-- An inner node. -/
theorem rnodeI_any (r : Nat) (s : ByteArray) (w : World) (b : Box3 w r (.string s) (.int .i64 0) (.int .i64 0)) (hs : s.size ≤ maxLen) :
    Calls Tryz.prog 91 #[.pointer (some ⟨r, 0, none⟩), .int .i64 2] w fun x w' => ∃ n a d n' a' d' n'' a'' d'', x = .returned (.agg #[.bool false, .slice a n d, .slice a' n' d', .slice a'' n'' d'']) ∧ n = (endI s).ks.length ∧ n' = ([] : List ByteArray).length ∧ n'' = (endI s).cs.length ∧
      IsS w' a d (endI s).ks ∧ IsS w' a' d' [] ∧ IsI w' a'' d'' (endI s).cs ∧ From w.heap.size a ∧ From w.heap.size a' ∧ From w.heap.size a'' ∧ Box3 w' r (.string s) (.int .i64 (endI s).p) (.int .i64 (endI s).e) ∧ Turns (fun k => k = r) w w' := by
  have hrw : r < w.heap.size := b.lt
  obtain ⟨W0, hW0⟩ : ∃ W0, W0 = w.alloc (.cells #[.bool false, .slice none 0 0, .slice none 0 0, .slice none 0 0] 76) := ⟨_, rfl⟩
  have b00 : Box4 W0 w.heap.size (.bool false) (.slice none 0 0) (.slice none 0 0) (.slice none 0 0) := by rw [hW0]; exact box4_new _ _ _ _ _ _ rfl
  have hB00 : Below w.heap.size w W0 := by rw [hW0]; exact (Below.refl _ _).alloc (Nat.le_refl _) _
  obtain ⟨V1, b1, t1, hsz, c1⟩ := rnumber_any r s 0 0 1 W0 (b.below hB00) hs
  obtain ⟨c, hc, hc2⟩ := rn_count s
  have hE : endI s = rdInn s (rnP s 0 0 1) (rnE s 0 0 1) c := by unfold endI; rw [hc]; rfl
  rw [hc] at c1
  have c2 := rinner_any r c s (rnP s 0 0 1) (rnE s 0 0 1) V1 b1 hs hc2
  rw [← hE] at c2
  obtain ⟨l1, l2⟩ := rdInn_len s (rnP s 0 0 1) (rnE s 0 0 1) c
  rw [← hE] at l1 l2
  have b01 := b00.turns t1 (by omega)
  have hwV : w.heap.size < V1.heap.size := b01.lt
  have T1 : Turns (fun k => k = r ∨ w.heap.size ≤ k) w V1 := (Turns.of_below hB00).trans (t1.mono fun k hk => .inl hk)
  have L1 : Hid ((endI s).ks.length = c) := l1
  have L2 : Hid ((endI s).cs.length = c + 1) := l2
  clear hE hc b b1 b00 hsz t1 l1 l2
  generalize endI s = R at *
  go_enter Tryz.func91, Tryz.ntmps91
  go_wp2_with (first
    | (go_at_call 116; rw [← hW0]; refine c1.mono ?_; rintro y w1 ⟨rfl, hw1⟩; have hw1' := hw1.symm; subst hw1'; clear hw1)
    | (go_at_call 118; refine c2.mono ?_; rintro y w2 ⟨a, d, a'', d'', rfl, i1, i2, j1, j2, b2, t2⟩; have I1 : Hid (IsS w2 a d R.ks) := i1; have I2 : Hid (IsI w2 a'' d'' R.cs) := i2; have B2 : Hid (Box3 w2 r (.string s) (.int .i64 R.p) (.int .i64 R.e)) := b2; have T2 : Hid (Turns (fun k => k = r) V1 w2) := t2; have J1 : Hid (From V1.heap.size a) := j1; have J2 : Hid (From V1.heap.size a'') := j2; obtain ⟨⟨r0, r1, r2, r3⟩, g0, g1, g2, g3⟩ := b01.turns t2 (by omega); clear i1 i2 b2 t2 j1 j2))
  have T4 := turns_put4 w2 w.heap.size (.bool false) (.slice a c d) (.slice none 0 0) (.slice a'' (c + 1) d'')
  refine bodyPost_ret (v := .agg #[.bool false, .slice a c d, .slice none 0 0, .slice a'' (c + 1) d'']) (by simp [results, Tryz.results91, go_sem, r0, r1, r2, r3]) rfl ⟨c, a, d, 0, none, 0, c + 1, a'', d'', rfl, L1.out.symm, rfl, L2.out.symm, I1.out.turns T4 (fun x hx e => by have := J1.out x hx; omega), isS_nil _, I2.out.turns T4 (fun x hx e => by have := J2.out x hx; omega), J1.out.mono (by omega), from_nil _, J2.out.mono (by omega), B2.out.turns T4 (by omega), ?_⟩
  exact ((T1.trans (T2.out.mono fun k hk => .inl hk)).trans (T4.mono fun k hk => .inr (by omega))).mono' fun k hk hh => by rcases hh with h | h <;> omega

end Go.Proofs.YtaecfbfcjaailaaGreat

namespace Go.Proofs.YtaecfbfcjaailaaGreat
open Go.RowKit Plain Anylast
set_option linter.unusedVariables false

/-- What is read: the error, and the node; nothing where there is an error. -/
def gE (kind : Int) (s : ByteArray) : Int := match nodeR kind s with | .inl e => e | .inr _ => 0
def gN (kind : Int) (s : ByteArray) : Bool × List ByteArray × List ByteArray × List Int := match nodeR kind s with | .inl _ => (false, [], [], []) | .inr x => x

theorem g_inl {kind e : Int} {s : ByteArray} (h : nodeR kind s = .inl e) : gE kind s = e ∧ gN kind s = (false, [], [], []) := by unfold gE gN; rw [h]; exact ⟨rfl, rfl⟩
theorem g_inr {kind : Int} {s : ByteArray} {x : Bool × List ByteArray × List ByteArray × List Int} (h : nodeR kind s = .inr x) : gE kind s = 0 ∧ gN kind s = x := by unfold gE gN; rw [h]; exact ⟨rfl, rfl⟩

/-- A node that is answered, with an error. -/
def Answers (w : World) (x : Ending) (w' : World) (l : Bool) (ks vs : List ByteArray) (cs : List Int) (E : Int) : Prop :=
  ∃ n a d n' a' d' n'' a'' d'', x = .returned (.tuple #[.agg #[.bool l, .slice a n d, .slice a' n' d', .slice a'' n'' d''], .int .i64 E]) ∧ n = ks.length ∧ n' = vs.length ∧ n'' = cs.length ∧
    IsS w' a d ks ∧ IsS w' a' d' vs ∧ IsI w' a'' d'' cs ∧ From w.heap.size a ∧ From w.heap.size a' ∧ From w.heap.size a'' ∧ Below w.heap.size w w'

theorem answers_none {w w' : World} {E : Int} (hb : Below w.heap.size w w') : Answers w (.returned (.tuple #[.agg #[.bool false, .slice none 0 0, .slice none 0 0, .slice none 0 0], .int .i64 E])) w' false [] [] [] E :=
  ⟨0, none, 0, 0, none, 0, 0, none, 0, rfl, rfl, rfl, rfl, isS_nil _, isS_nil _, isI_nil _, from_nil _, from_nil _, from_nil _, hb⟩

set_option maxRecDepth 20000 in
set_option maxHeartbeats 4000000 in
theorem nodeGet_core (kind : Int) (s : ByteArray) (w : World) (hs : s.size ≤ maxLen) (hk : kind = 1 ∨ kind = 2) (l : Bool) (ks vs : List ByteArray) (cs : List Int) (P E : Int)
    (cN : ∀ V r, Box3 V r (.string s) (.int .i64 0) (.int .i64 0) → Calls Tryz.prog 91 #[.pointer (some ⟨r, 0, none⟩), .int .i64 kind] V fun x w' => ∃ n a d n' a' d' n'' a'' d'', x = .returned (.agg #[.bool l, .slice a n d, .slice a' n' d', .slice a'' n'' d'']) ∧ n = ks.length ∧ n' = vs.length ∧ n'' = cs.length ∧
      IsS w' a d ks ∧ IsS w' a' d' vs ∧ IsI w' a'' d'' cs ∧ From V.heap.size a ∧ From V.heap.size a' ∧ From V.heap.size a'' ∧ Box3 w' r (.string s) (.int .i64 P) (.int .i64 E) ∧ Turns (fun k => k = r) V w') :
    Calls Tryz.prog 79 #[.int .i64 kind, .string s] w fun x w' => if E = 0 then (if P = s.size ∧ rightN l ks vs cs true = true then Answers w x w' l ks vs cs 0 else Answers w x w' false [] [] [] 4) else Answers w x w' false [] [] [] E := by
  obtain ⟨W, hW⟩ : ∃ W, W = (w.alloc (.cells #[.bool false, .slice none 0 0, .slice none 0 0, .slice none 0 0] 76)).alloc (.cells #[.string s, .int .i64 0, .int .i64 0] 144) := ⟨_, rfl⟩
  have b0 : Box4 W w.heap.size (.bool false) (.slice none 0 0) (.slice none 0 0) (.slice none 0 0) := by rw [hW]; exact (box4_new _ _ _ _ _ _ rfl).alloc _
  have bR : Box3 W (w.heap.size + 1) (.string s) (.int .i64 0) (.int .i64 0) := by
    rw [hW]
    have := box3_new (w.alloc (.cells #[.bool false, .slice none 0 0, .slice none 0 0, .slice none 0 0] 76)) (.string s) (.int .i64 0) (.int .i64 0) 144
    simpa using this
  have hB0 : Below w.heap.size w W := by rw [hW]; exact ((Below.refl _ _).alloc (Nat.le_refl _) _).alloc (by simp) _
  have hz : w.heap.size + 2 ≤ W.heap.size := by rw [hW]; simp
  replace cN := cN W (w.heap.size + 1) bR
  have hm : s.size ≤ 9223372036854775807 := hs
  clear bR hs
  have hle : w.heap.size ≤ w.heap.size := Nat.le_refl _
  by_cases hE : E = 0
  · subst hE
    simp only [if_true]
    by_cases hP : P = s.size
    · subst hP
      have hP' : ((s.size : Int) != s.size) = false := by simp
      have cR : ∀ V a d a' d' a'' d'', IsS V a d ks → IsS V a' d' vs → IsI V a'' d'' cs → Calls Tryz.prog 80 #[.agg #[.bool l, .slice a ks.length d, .slice a' vs.length d', .slice a'' cs.length d''], .bool true] V fun e w' => e = .returned (.bool (rightN l ks vs cs true)) ∧ Below V.heap.size V w' := fun V a d a' d' a'' d'' h1 h2 h3 => nodeRight_any _ _ _ _ _ _ _ _ _ _ _ _ _ true _ rfl rfl rfl h1 h2 h3
      cases hr : rightN l ks vs cs true with
      | true =>
        rw [hr] at cR
        simp only [and_self, if_true]
        clear hr
        rcases hk with rfl | rfl
        · go_enter Tryz.func79, Tryz.ntmps79
          go_wp2_with (first
            | (go_at_call 91; rw [← hW]; refine cN.mono ?_; rintro y w2 ⟨n, a, d, n', a', d', n'', a'', d'', rfl, rfl, rfl, rfl, i1, i2, i3, j1, j2, j3, b2, t2⟩; have b02 := b0.turns t2 (by omega); obtain ⟨⟨p0, p1, p2⟩, -⟩ := id b2; have p1' := cell_alloc p1; have p2' := cell_alloc p2; have zz := fun o => b02.alloc o; have z0 := fun o => (zz o).1.1; have z1 := fun o => (zz o).1.2.1; have z2 := fun o => (zz o).1.2.2.1; have z3 := fun o => (zz o).1.2.2.2; have y0 := fun o => (zz o).2.1; have y1 := fun o => (zz o).2.2.1; have y2 := fun o => (zz o).2.2.2.1; have y3 := fun o => (zz o).2.2.2.2; have B2 : Hid (Below w.heap.size w w2) := Below.turns hB0 t2 (fun k hk => by omega); have I1 : Hid (IsS w2 a d ks) := i1; have I2 : Hid (IsS w2 a' d' vs) := i2; have I3 : Hid (IsI w2 a'' d'' cs) := i3; have J1 : Hid (From W.heap.size a) := j1; have J2 : Hid (From W.heap.size a') := j2; have J3 : Hid (From W.heap.size a'') := j3; have hz2 : Hid (W.heap.size ≤ w2.heap.size) := t2.size; clear i1 i2 i3 j1 j2 j3 b2 t2 p0 p1 p2 zz b02)
            | (go_at_call 80; have hA2 : Below w2.heap.size w2 (w2.alloc (.cells #[.bool l, .slice a ks.length d, .slice a' vs.length d', .slice a'' cs.length d''] 76)) := (Below.refl _ _).alloc (Nat.le_refl _) _; refine (cR _ a d a' d' a'' d'' (I1.out.below hA2) (I2.out.below hA2) (I3.out.below hA2)).mono ?_; rintro y w3 ⟨rfl, hb⟩; have b7 := (box4_new w2 (.bool l) (.slice a ks.length d) (.slice a' vs.length d') (.slice a'' cs.length d'') 76 rfl).below hb; have bO := (Box4.below (h := w.heap.size) (v0 := .bool false) (v1 := .slice none 0 0) (v2 := .slice none 0 0) (v3 := .slice none 0 0) ⟨⟨z0 _, z1 _, z2 _, z3 _⟩, y0 _, y1 _, y2 _, y3 _⟩ hb); have B3 : Hid (Below w.heap.size w w3) := Below.tr (Below.tr B2.out hA2) hb; replace I1 : Hid (IsS w3 a d ks) := (I1.out.below hA2).below hb; replace I2 : Hid (IsS w3 a' d' vs) := (I2.out.below hA2).below hb; replace I3 : Hid (IsI w3 a'' d'' cs) := (I3.out.below hA2).below hb; clear hb hA2 z0 z1 z2 z3 y0 y1 y2 y3 p1' p2'; obtain ⟨⟨m0, m1, m2, m3⟩, -⟩ := b7; obtain ⟨⟨r0, r1, r2, r3⟩, g0, g1, g2, g3⟩ := bO))
          have T4 := turns_put4 w3 w.heap.size (.bool l) (.slice a ks.length d) (.slice a' vs.length d') (.slice a'' cs.length d'')
          refine bodyPost_ret (v := .tuple #[.agg #[.bool l, .slice a ks.length d, .slice a' vs.length d', .slice a'' cs.length d''], .int .i64 0]) (by simp [results, Tryz.results79, go_sem, r0, r1, r2, r3]) rfl ⟨_, a, d, _, a', d', _, a'', d'', rfl, rfl, rfl, rfl, I1.out.turns T4 (fun x hx e => by have := J1.out x hx; omega), I2.out.turns T4 (fun x hx e => by have := J2.out x hx; omega), I3.out.turns T4 (fun x hx e => by have := J3.out x hx; omega), J1.out.mono (by omega), J2.out.mono (by omega), J3.out.mono (by omega), Below.turns B3.out T4 (fun k hk => by omega)⟩
        · go_enter Tryz.func79, Tryz.ntmps79
          go_wp2_with (first
            | (go_at_call 91; rw [← hW]; refine cN.mono ?_; rintro y w2 ⟨n, a, d, n', a', d', n'', a'', d'', rfl, rfl, rfl, rfl, i1, i2, i3, j1, j2, j3, b2, t2⟩; have b02 := b0.turns t2 (by omega); obtain ⟨⟨p0, p1, p2⟩, -⟩ := id b2; have p1' := cell_alloc p1; have p2' := cell_alloc p2; have zz := fun o => b02.alloc o; have z0 := fun o => (zz o).1.1; have z1 := fun o => (zz o).1.2.1; have z2 := fun o => (zz o).1.2.2.1; have z3 := fun o => (zz o).1.2.2.2; have y0 := fun o => (zz o).2.1; have y1 := fun o => (zz o).2.2.1; have y2 := fun o => (zz o).2.2.2.1; have y3 := fun o => (zz o).2.2.2.2; have B2 : Hid (Below w.heap.size w w2) := Below.turns hB0 t2 (fun k hk => by omega); have I1 : Hid (IsS w2 a d ks) := i1; have I2 : Hid (IsS w2 a' d' vs) := i2; have I3 : Hid (IsI w2 a'' d'' cs) := i3; have J1 : Hid (From W.heap.size a) := j1; have J2 : Hid (From W.heap.size a') := j2; have J3 : Hid (From W.heap.size a'') := j3; have hz2 : Hid (W.heap.size ≤ w2.heap.size) := t2.size; clear i1 i2 i3 j1 j2 j3 b2 t2 p0 p1 p2 zz b02)
            | (go_at_call 80; have hA2 : Below w2.heap.size w2 (w2.alloc (.cells #[.bool l, .slice a ks.length d, .slice a' vs.length d', .slice a'' cs.length d''] 76)) := (Below.refl _ _).alloc (Nat.le_refl _) _; refine (cR _ a d a' d' a'' d'' (I1.out.below hA2) (I2.out.below hA2) (I3.out.below hA2)).mono ?_; rintro y w3 ⟨rfl, hb⟩; have b7 := (box4_new w2 (.bool l) (.slice a ks.length d) (.slice a' vs.length d') (.slice a'' cs.length d'') 76 rfl).below hb; have bO := (Box4.below (h := w.heap.size) (v0 := .bool false) (v1 := .slice none 0 0) (v2 := .slice none 0 0) (v3 := .slice none 0 0) ⟨⟨z0 _, z1 _, z2 _, z3 _⟩, y0 _, y1 _, y2 _, y3 _⟩ hb); have B3 : Hid (Below w.heap.size w w3) := Below.tr (Below.tr B2.out hA2) hb; replace I1 : Hid (IsS w3 a d ks) := (I1.out.below hA2).below hb; replace I2 : Hid (IsS w3 a' d' vs) := (I2.out.below hA2).below hb; replace I3 : Hid (IsI w3 a'' d'' cs) := (I3.out.below hA2).below hb; clear hb hA2 z0 z1 z2 z3 y0 y1 y2 y3 p1' p2'; obtain ⟨⟨m0, m1, m2, m3⟩, -⟩ := b7; obtain ⟨⟨r0, r1, r2, r3⟩, g0, g1, g2, g3⟩ := bO))
          have T4 := turns_put4 w3 w.heap.size (.bool l) (.slice a ks.length d) (.slice a' vs.length d') (.slice a'' cs.length d'')
          refine bodyPost_ret (v := .tuple #[.agg #[.bool l, .slice a ks.length d, .slice a' vs.length d', .slice a'' cs.length d''], .int .i64 0]) (by simp [results, Tryz.results79, go_sem, r0, r1, r2, r3]) rfl ⟨_, a, d, _, a', d', _, a'', d'', rfl, rfl, rfl, rfl, I1.out.turns T4 (fun x hx e => by have := J1.out x hx; omega), I2.out.turns T4 (fun x hx e => by have := J2.out x hx; omega), I3.out.turns T4 (fun x hx e => by have := J3.out x hx; omega), J1.out.mono (by omega), J2.out.mono (by omega), J3.out.mono (by omega), Below.turns B3.out T4 (fun k hk => by omega)⟩
      | false =>
        rw [hr] at cR
        simp only [and_false, if_false, Bool.false_eq_true]
        clear hr
        rcases hk with rfl | rfl
        · go_enter Tryz.func79, Tryz.ntmps79
          go_wp2_with (first
            | (go_at_call 91; rw [← hW]; refine cN.mono ?_; rintro y w2 ⟨n, a, d, n', a', d', n'', a'', d'', rfl, rfl, rfl, rfl, i1, i2, i3, j1, j2, j3, b2, t2⟩; have b02 := b0.turns t2 (by omega); obtain ⟨⟨p0, p1, p2⟩, -⟩ := id b2; have p1' := cell_alloc p1; have p2' := cell_alloc p2; have zz := fun o => b02.alloc o; have z0 := fun o => (zz o).1.1; have z1 := fun o => (zz o).1.2.1; have z2 := fun o => (zz o).1.2.2.1; have z3 := fun o => (zz o).1.2.2.2; have y0 := fun o => (zz o).2.1; have y1 := fun o => (zz o).2.2.1; have y2 := fun o => (zz o).2.2.2.1; have y3 := fun o => (zz o).2.2.2.2; have B2 : Hid (Below w.heap.size w w2) := Below.turns hB0 t2 (fun k hk => by omega); have I1 : Hid (IsS w2 a d ks) := i1; have I2 : Hid (IsS w2 a' d' vs) := i2; have I3 : Hid (IsI w2 a'' d'' cs) := i3; have J1 : Hid (From W.heap.size a) := j1; have J2 : Hid (From W.heap.size a') := j2; have J3 : Hid (From W.heap.size a'') := j3; have hz2 : Hid (W.heap.size ≤ w2.heap.size) := t2.size; clear i1 i2 i3 j1 j2 j3 b2 t2 p0 p1 p2 zz b02)
            | (go_at_call 80; have hA2 : Below w2.heap.size w2 (w2.alloc (.cells #[.bool l, .slice a ks.length d, .slice a' vs.length d', .slice a'' cs.length d''] 76)) := (Below.refl _ _).alloc (Nat.le_refl _) _; refine (cR _ a d a' d' a'' d'' (I1.out.below hA2) (I2.out.below hA2) (I3.out.below hA2)).mono ?_; rintro y w3 ⟨rfl, hb⟩; have b7 := (box4_new w2 (.bool l) (.slice a ks.length d) (.slice a' vs.length d') (.slice a'' cs.length d'') 76 rfl).below hb; have bO := (Box4.below (h := w.heap.size) (v0 := .bool false) (v1 := .slice none 0 0) (v2 := .slice none 0 0) (v3 := .slice none 0 0) ⟨⟨z0 _, z1 _, z2 _, z3 _⟩, y0 _, y1 _, y2 _, y3 _⟩ hb); have B3 : Hid (Below w.heap.size w w3) := Below.tr (Below.tr B2.out hA2) hb; replace I1 : Hid (IsS w3 a d ks) := (I1.out.below hA2).below hb; replace I2 : Hid (IsS w3 a' d' vs) := (I2.out.below hA2).below hb; replace I3 : Hid (IsI w3 a'' d'' cs) := (I3.out.below hA2).below hb; clear hb hA2 z0 z1 z2 z3 y0 y1 y2 y3 p1' p2'; obtain ⟨⟨m0, m1, m2, m3⟩, -⟩ := b7; obtain ⟨⟨r0, r1, r2, r3⟩, g0, g1, g2, g3⟩ := bO))
          have T4 := turns_put4 w3 w.heap.size (.bool false) (.slice none 0 0) (.slice none 0 0) (.slice none 0 0)
          refine bodyPost_ret (v := .tuple #[.agg #[.bool false, .slice none 0 0, .slice none 0 0, .slice none 0 0], .int .i64 4]) (by simp [results, Tryz.results79, go_sem, r0, r1, r2, r3]) rfl (answers_none (Below.turns B3.out T4 (fun k hk => by omega)))
        · go_enter Tryz.func79, Tryz.ntmps79
          go_wp2_with (first
            | (go_at_call 91; rw [← hW]; refine cN.mono ?_; rintro y w2 ⟨n, a, d, n', a', d', n'', a'', d'', rfl, rfl, rfl, rfl, i1, i2, i3, j1, j2, j3, b2, t2⟩; have b02 := b0.turns t2 (by omega); obtain ⟨⟨p0, p1, p2⟩, -⟩ := id b2; have p1' := cell_alloc p1; have p2' := cell_alloc p2; have zz := fun o => b02.alloc o; have z0 := fun o => (zz o).1.1; have z1 := fun o => (zz o).1.2.1; have z2 := fun o => (zz o).1.2.2.1; have z3 := fun o => (zz o).1.2.2.2; have y0 := fun o => (zz o).2.1; have y1 := fun o => (zz o).2.2.1; have y2 := fun o => (zz o).2.2.2.1; have y3 := fun o => (zz o).2.2.2.2; have B2 : Hid (Below w.heap.size w w2) := Below.turns hB0 t2 (fun k hk => by omega); have I1 : Hid (IsS w2 a d ks) := i1; have I2 : Hid (IsS w2 a' d' vs) := i2; have I3 : Hid (IsI w2 a'' d'' cs) := i3; have J1 : Hid (From W.heap.size a) := j1; have J2 : Hid (From W.heap.size a') := j2; have J3 : Hid (From W.heap.size a'') := j3; have hz2 : Hid (W.heap.size ≤ w2.heap.size) := t2.size; clear i1 i2 i3 j1 j2 j3 b2 t2 p0 p1 p2 zz b02)
            | (go_at_call 80; have hA2 : Below w2.heap.size w2 (w2.alloc (.cells #[.bool l, .slice a ks.length d, .slice a' vs.length d', .slice a'' cs.length d''] 76)) := (Below.refl _ _).alloc (Nat.le_refl _) _; refine (cR _ a d a' d' a'' d'' (I1.out.below hA2) (I2.out.below hA2) (I3.out.below hA2)).mono ?_; rintro y w3 ⟨rfl, hb⟩; have b7 := (box4_new w2 (.bool l) (.slice a ks.length d) (.slice a' vs.length d') (.slice a'' cs.length d'') 76 rfl).below hb; have bO := (Box4.below (h := w.heap.size) (v0 := .bool false) (v1 := .slice none 0 0) (v2 := .slice none 0 0) (v3 := .slice none 0 0) ⟨⟨z0 _, z1 _, z2 _, z3 _⟩, y0 _, y1 _, y2 _, y3 _⟩ hb); have B3 : Hid (Below w.heap.size w w3) := Below.tr (Below.tr B2.out hA2) hb; replace I1 : Hid (IsS w3 a d ks) := (I1.out.below hA2).below hb; replace I2 : Hid (IsS w3 a' d' vs) := (I2.out.below hA2).below hb; replace I3 : Hid (IsI w3 a'' d'' cs) := (I3.out.below hA2).below hb; clear hb hA2 z0 z1 z2 z3 y0 y1 y2 y3 p1' p2'; obtain ⟨⟨m0, m1, m2, m3⟩, -⟩ := b7; obtain ⟨⟨r0, r1, r2, r3⟩, g0, g1, g2, g3⟩ := bO))
          have T4 := turns_put4 w3 w.heap.size (.bool false) (.slice none 0 0) (.slice none 0 0) (.slice none 0 0)
          refine bodyPost_ret (v := .tuple #[.agg #[.bool false, .slice none 0 0, .slice none 0 0, .slice none 0 0], .int .i64 4]) (by simp [results, Tryz.results79, go_sem, r0, r1, r2, r3]) rfl (answers_none (Below.turns B3.out T4 (fun k hk => by omega)))
    · have hP' : (P != (s.size : Int)) = true := by simpa using hP
      simp only [hP, false_and, if_false]
      rcases hk with rfl | rfl
      · go_enter Tryz.func79, Tryz.ntmps79
        go_wp2_with (first
          | (go_at_call 91; rw [← hW]; refine cN.mono ?_; rintro y w2 ⟨n, a, d, n', a', d', n'', a'', d'', rfl, rfl, rfl, rfl, i1, i2, i3, j1, j2, j3, b2, t2⟩; have b02 := b0.turns t2 (by omega); obtain ⟨⟨p0, p1, p2⟩, -⟩ := id b2; have p1' := cell_alloc p1; have p2' := cell_alloc p2; have zz := fun o => b02.alloc o; have z0 := fun o => (zz o).1.1; have z1 := fun o => (zz o).1.2.1; have z2 := fun o => (zz o).1.2.2.1; have z3 := fun o => (zz o).1.2.2.2; have y0 := fun o => (zz o).2.1; have y1 := fun o => (zz o).2.2.1; have y2 := fun o => (zz o).2.2.2.1; have y3 := fun o => (zz o).2.2.2.2; have B2 : Hid (Below w.heap.size w w2) := Below.turns hB0 t2 (fun k hk => by omega); have I1 : Hid (IsS w2 a d ks) := i1; have I2 : Hid (IsS w2 a' d' vs) := i2; have I3 : Hid (IsI w2 a'' d'' cs) := i3; have J1 : Hid (From W.heap.size a) := j1; have J2 : Hid (From W.heap.size a') := j2; have J3 : Hid (From W.heap.size a'') := j3; have hz2 : Hid (W.heap.size ≤ w2.heap.size) := t2.size; clear i1 i2 i3 j1 j2 j3 b2 t2 p0 p1 p2 zz b02))
        have hA2 : Below w2.heap.size w2 (w2.alloc (.cells #[.bool l, .slice a ks.length d, .slice a' vs.length d', .slice a'' cs.length d''] 76)) := (Below.refl _ _).alloc (Nat.le_refl _) _
        have T4 := turns_put4 (w2.alloc (.cells #[.bool l, .slice a ks.length d, .slice a' vs.length d', .slice a'' cs.length d''] 76)) w.heap.size (.bool false) (.slice none 0 0) (.slice none 0 0) (.slice none 0 0)
        refine bodyPost_ret (v := .tuple #[.agg #[.bool false, .slice none 0 0, .slice none 0 0, .slice none 0 0], .int .i64 4]) (by simp [results, Tryz.results79, go_sem, z0, z1, z2, z3]) rfl (answers_none (Below.turns (Below.tr B2.out hA2) T4 (fun k hk => by omega)))
      · go_enter Tryz.func79, Tryz.ntmps79
        go_wp2_with (first
          | (go_at_call 91; rw [← hW]; refine cN.mono ?_; rintro y w2 ⟨n, a, d, n', a', d', n'', a'', d'', rfl, rfl, rfl, rfl, i1, i2, i3, j1, j2, j3, b2, t2⟩; have b02 := b0.turns t2 (by omega); obtain ⟨⟨p0, p1, p2⟩, -⟩ := id b2; have p1' := cell_alloc p1; have p2' := cell_alloc p2; have zz := fun o => b02.alloc o; have z0 := fun o => (zz o).1.1; have z1 := fun o => (zz o).1.2.1; have z2 := fun o => (zz o).1.2.2.1; have z3 := fun o => (zz o).1.2.2.2; have y0 := fun o => (zz o).2.1; have y1 := fun o => (zz o).2.2.1; have y2 := fun o => (zz o).2.2.2.1; have y3 := fun o => (zz o).2.2.2.2; have B2 : Hid (Below w.heap.size w w2) := Below.turns hB0 t2 (fun k hk => by omega); have I1 : Hid (IsS w2 a d ks) := i1; have I2 : Hid (IsS w2 a' d' vs) := i2; have I3 : Hid (IsI w2 a'' d'' cs) := i3; have J1 : Hid (From W.heap.size a) := j1; have J2 : Hid (From W.heap.size a') := j2; have J3 : Hid (From W.heap.size a'') := j3; have hz2 : Hid (W.heap.size ≤ w2.heap.size) := t2.size; clear i1 i2 i3 j1 j2 j3 b2 t2 p0 p1 p2 zz b02))
        have hA2 : Below w2.heap.size w2 (w2.alloc (.cells #[.bool l, .slice a ks.length d, .slice a' vs.length d', .slice a'' cs.length d''] 76)) := (Below.refl _ _).alloc (Nat.le_refl _) _
        have T4 := turns_put4 (w2.alloc (.cells #[.bool l, .slice a ks.length d, .slice a' vs.length d', .slice a'' cs.length d''] 76)) w.heap.size (.bool false) (.slice none 0 0) (.slice none 0 0) (.slice none 0 0)
        refine bodyPost_ret (v := .tuple #[.agg #[.bool false, .slice none 0 0, .slice none 0 0, .slice none 0 0], .int .i64 4]) (by simp [results, Tryz.results79, go_sem, z0, z1, z2, z3]) rfl (answers_none (Below.turns (Below.tr B2.out hA2) T4 (fun k hk => by omega)))
  · have hE' : (E != 0) = true := by simpa using hE
    simp only [hE, if_false]
    rcases hk with rfl | rfl
    · go_enter Tryz.func79, Tryz.ntmps79
      go_wp2_with (first
        | (go_at_call 91; rw [← hW]; refine cN.mono ?_; rintro y w2 ⟨n, a, d, n', a', d', n'', a'', d'', rfl, rfl, rfl, rfl, i1, i2, i3, j1, j2, j3, b2, t2⟩; have b02 := b0.turns t2 (by omega); obtain ⟨⟨p0, p1, p2⟩, -⟩ := id b2; have p1' := cell_alloc p1; have p2' := cell_alloc p2; have zz := fun o => b02.alloc o; have z0 := fun o => (zz o).1.1; have z1 := fun o => (zz o).1.2.1; have z2 := fun o => (zz o).1.2.2.1; have z3 := fun o => (zz o).1.2.2.2; have y0 := fun o => (zz o).2.1; have y1 := fun o => (zz o).2.2.1; have y2 := fun o => (zz o).2.2.2.1; have y3 := fun o => (zz o).2.2.2.2; have B2 : Hid (Below w.heap.size w w2) := Below.turns hB0 t2 (fun k hk => by omega); have I1 : Hid (IsS w2 a d ks) := i1; have I2 : Hid (IsS w2 a' d' vs) := i2; have I3 : Hid (IsI w2 a'' d'' cs) := i3; have J1 : Hid (From W.heap.size a) := j1; have J2 : Hid (From W.heap.size a') := j2; have J3 : Hid (From W.heap.size a'') := j3; have hz2 : Hid (W.heap.size ≤ w2.heap.size) := t2.size; clear i1 i2 i3 j1 j2 j3 b2 t2 p0 p1 p2 zz b02))
      go_region
      go_wp2
      have hA2 : Below w2.heap.size w2 (w2.alloc (.cells #[.bool l, .slice a ks.length d, .slice a' vs.length d', .slice a'' cs.length d''] 76)) := (Below.refl _ _).alloc (Nat.le_refl _) _
      have T4 := turns_put4 (w2.alloc (.cells #[.bool l, .slice a ks.length d, .slice a' vs.length d', .slice a'' cs.length d''] 76)) w.heap.size (.bool false) (.slice none 0 0) (.slice none 0 0) (.slice none 0 0)
      refine bodyPost_ret (v := .tuple #[.agg #[.bool false, .slice none 0 0, .slice none 0 0, .slice none 0 0], .int .i64 E]) (by simp [results, Tryz.results79, go_sem, z0, z1, z2, z3]) rfl (answers_none (Below.turns (Below.tr B2.out hA2) T4 (fun k hk => by omega)).drew)
    · go_enter Tryz.func79, Tryz.ntmps79
      go_wp2_with (first
        | (go_at_call 91; rw [← hW]; refine cN.mono ?_; rintro y w2 ⟨n, a, d, n', a', d', n'', a'', d'', rfl, rfl, rfl, rfl, i1, i2, i3, j1, j2, j3, b2, t2⟩; have b02 := b0.turns t2 (by omega); obtain ⟨⟨p0, p1, p2⟩, -⟩ := id b2; have p1' := cell_alloc p1; have p2' := cell_alloc p2; have zz := fun o => b02.alloc o; have z0 := fun o => (zz o).1.1; have z1 := fun o => (zz o).1.2.1; have z2 := fun o => (zz o).1.2.2.1; have z3 := fun o => (zz o).1.2.2.2; have y0 := fun o => (zz o).2.1; have y1 := fun o => (zz o).2.2.1; have y2 := fun o => (zz o).2.2.2.1; have y3 := fun o => (zz o).2.2.2.2; have B2 : Hid (Below w.heap.size w w2) := Below.turns hB0 t2 (fun k hk => by omega); have I1 : Hid (IsS w2 a d ks) := i1; have I2 : Hid (IsS w2 a' d' vs) := i2; have I3 : Hid (IsI w2 a'' d'' cs) := i3; have J1 : Hid (From W.heap.size a) := j1; have J2 : Hid (From W.heap.size a') := j2; have J3 : Hid (From W.heap.size a'') := j3; have hz2 : Hid (W.heap.size ≤ w2.heap.size) := t2.size; clear i1 i2 i3 j1 j2 j3 b2 t2 p0 p1 p2 zz b02))
      go_region
      go_wp2
      have hA2 : Below w2.heap.size w2 (w2.alloc (.cells #[.bool l, .slice a ks.length d, .slice a' vs.length d', .slice a'' cs.length d''] 76)) := (Below.refl _ _).alloc (Nat.le_refl _) _
      have T4 := turns_put4 (w2.alloc (.cells #[.bool l, .slice a ks.length d, .slice a' vs.length d', .slice a'' cs.length d''] 76)) w.heap.size (.bool false) (.slice none 0 0) (.slice none 0 0) (.slice none 0 0)
      refine bodyPost_ret (v := .tuple #[.agg #[.bool false, .slice none 0 0, .slice none 0 0, .slice none 0 0], .int .i64 E]) (by simp [results, Tryz.results79, go_sem, z0, z1, z2, z3]) rfl (answers_none (Below.turns (Below.tr B2.out hA2) T4 (fun k hk => by omega)).drew)

set_option maxHeartbeats 1000000 in
theorem nodeGet_kind (kind : Int) (s : ByteArray) (w : World) (h1 : kind ≠ 1) (h2 : kind ≠ 2) :
    Calls Tryz.prog 79 #[.int .i64 kind, .string s] w fun x w' => Answers w x w' false [] [] [] 81 := by
  have k1 : (kind != 1) = true := by simpa using h1
  have k2 : (kind != 2) = true := by simpa using h2
  have b0 := box4_new w (.bool false) (.slice none 0 0) (.slice none 0 0) (.slice none 0 0) 76 rfl
  have hB0 : Below w.heap.size w (w.alloc (.cells #[.bool false, .slice none 0 0, .slice none 0 0, .slice none 0 0] 76)) := (Below.refl _ _).alloc (Nat.le_refl _) _
  have hle : w.heap.size ≤ w.heap.size := Nat.le_refl _
  obtain ⟨⟨z0, z1, z2, z3⟩, y0, y1, y2, y3⟩ := id b0
  go_enter Tryz.func79, Tryz.ntmps79
  go_wp2
  refine bodyPost_ret (v := .tuple #[.agg #[.bool false, .slice none 0 0, .slice none 0 0, .slice none 0 0], .int .i64 81]) (by simp [results, Tryz.results79, go_sem, z0, z1, z2, z3]) rfl (answers_none ?_)
  exact hB0

/-- GET, at all kinds and texts. -/
theorem nodeGet_any (kind : Int) (s : ByteArray) (w : World) (hs : s.size ≤ maxLen) :
    Calls Tryz.prog 79 #[.int .i64 kind, .string s] w fun x w' => Answers w x w' (gN kind s).1 (gN kind s).2.1 (gN kind s).2.2.1 (gN kind s).2.2.2 (gE kind s) := by
  by_cases h1 : kind = 1
  · have hR : nodeR kind s = leafR s := by unfold nodeR; rw [if_pos h1]
    rw [leafR_end] at hR
    refine (nodeGet_core kind s w hs (.inl h1) true (endL s).ks (endL s).vs [] (endL s).p (endL s).e (fun V r b => by rw [h1]; exact rnodeL_any r s V b hs)).mono fun x w' h => ?_
    by_cases e0 : (endL s).e = 0
    · rw [if_pos e0] at h hR
      by_cases e1 : (endL s).p = s.size ∧ rightN true (endL s).ks (endL s).vs [] true = true
      · rw [if_pos e1] at h hR
        obtain ⟨g1, g2⟩ := g_inr hR
        rw [g1, g2]; exact h
      · rw [if_neg e1] at h hR
        obtain ⟨g1, g2⟩ := g_inl hR
        rw [g1, g2]; exact h
    · rw [if_neg e0] at h hR
      obtain ⟨g1, g2⟩ := g_inl hR
      rw [g1, g2]; exact h
  · by_cases h2 : kind = 2
    · have hR : nodeR kind s = innR s := by unfold nodeR; rw [if_neg h1, if_pos h2]
      rw [innR_end] at hR
      refine (nodeGet_core kind s w hs (.inr h2) false (endI s).ks [] (endI s).cs (endI s).p (endI s).e (fun V r b => by rw [h2]; exact rnodeI_any r s V b hs)).mono fun x w' h => ?_
      by_cases e0 : (endI s).e = 0
      · rw [if_pos e0] at h hR
        by_cases e1 : (endI s).p = s.size ∧ rightN false (endI s).ks [] (endI s).cs true = true
        · rw [if_pos e1] at h hR
          obtain ⟨g1, g2⟩ := g_inr hR
          rw [g1, g2]; exact h
        · rw [if_neg e1] at h hR
          obtain ⟨g1, g2⟩ := g_inl hR
          rw [g1, g2]; exact h
      · rw [if_neg e0] at h hR
        obtain ⟨g1, g2⟩ := g_inl hR
        rw [g1, g2]; exact h
    · have hR : nodeR kind s = .inl 81 := by unfold nodeR; rw [if_neg h1, if_neg h2]
      obtain ⟨g1, g2⟩ := g_inl hR
      rw [g1, g2]
      exact nodeGet_kind kind s w h1 h2

end Go.Proofs.YtaecfbfcjaailaaGreat

namespace Go.Proofs.YtaecfbfcjaailaaGreat.Plain
open Go.RowKit
set_option linter.unusedVariables false

/-! Where a key stands -/

def findN (key : ByteArray) : List ByteArray → Nat
  | [] => 0
  | k :: ks => if ltB k key = true then findN key ks + 1 else 0

def isN (ks : List ByteArray) (key : ByteArray) : Bool := decide (ks[findN key ks]? = some key)
def kidN (ks : List ByteArray) (key : ByteArray) : Nat := ks.countP fun k => !ltB key k

theorem findN_le (key : ByteArray) (ks : List ByteArray) : findN key ks ≤ ks.length := by
  induction ks with
  | nil => exact Nat.le_refl _
  | cons k ks ih =>
    rw [findN]
    split
    · simp; omega
    · simp

/-- All keys ahead of it are below the key. -/
theorem findN_ahead {key : ByteArray} {ks : List ByteArray} {j : Nat} {x : ByteArray} (hx : ks[j]? = some x) (hj : j < findN key ks) : ltB x key = true := by
  induction ks generalizing j with
  | nil => simp at hx
  | cons k ks ih =>
    rw [findN] at hj
    split at hj
    · rename_i hk
      cases j with
      | zero => simp at hx; rw [← hx]; exact hk
      | succ j => exact ih (by simpa using hx) (by omega)
    · omega

/-- The one there is not. -/
theorem findN_at {key : ByteArray} {ks : List ByteArray} {x : ByteArray} (hx : ks[findN key ks]? = some x) : ltB x key = false := by
  induction ks with
  | nil => simp at hx
  | cons k ks ih =>
    rw [findN] at hx
    split at hx
    · exact ih (by simpa using hx)
    · rename_i hk
      simp at hx
      rw [← hx]; simpa using hk

/-- None from there on is. -/
theorem findN_behind {key : ByteArray} {ks : List ByteArray} (hr : risingK ks = true) {j : Nat} {x : ByteArray} (hx : ks[j]? = some x) (hj : findN key ks ≤ j) : ltB x key = false := by
  rcases Nat.lt_or_eq_of_le hj with h | h
  · obtain ⟨y, hy⟩ : ∃ y, ks[findN key ks]? = some y := ⟨_, List.getElem?_eq_getElem (by have := (List.getElem?_eq_some_iff.1 hx).1; omega)⟩
    have h1 := findN_at hy
    have h2 := rising_iff.1 hr _ _ _ _ h hy hx
    cases hc : ltB x key with
    | false => rfl
    | true => rw [ltB_trans h2 hc] at h1; cases h1
  · rw [← h] at hx; exact findN_at hx

/-- It is the first place whose key is not below. -/
theorem findN_is {key : ByteArray} {ks : List ByteArray} {i : Nat} {x : ByteArray} (hx : ks[i]? = some x) (h : ltB x key = false) (hall : ∀ j y, j < i → ks[j]? = some y → ltB y key = true) : findN key ks = i := by
  rcases Nat.lt_trichotomy (findN key ks) i with hl | hl | hl
  · obtain ⟨y, hy⟩ : ∃ y, ks[findN key ks]? = some y := ⟨_, List.getElem?_eq_getElem (by have := (List.getElem?_eq_some_iff.1 hx).1; omega)⟩
    have := findN_at hy
    rw [hall _ _ hl hy] at this
    cases this
  · exact hl
  · have := findN_ahead hx hl
    rw [h] at this; cases this

theorem findN_all {key : ByteArray} {ks : List ByteArray} (hall : ∀ (j : Nat) (y : ByteArray), ks[j]? = some y → ltB y key = true) : findN key ks = ks.length := by
  rcases Nat.lt_or_eq_of_le (findN_le key ks) with h | h
  · obtain ⟨y, hy⟩ : ∃ y, ks[findN key ks]? = some y := ⟨_, List.getElem?_eq_getElem h⟩
    have := findN_at hy
    rw [hall _ _ hy] at this
    cases this
  · exact h

/-- A key that is there stands there. -/
theorem findN_there {key : ByteArray} {ks : List ByteArray} (hr : risingK ks = true) {j : Nat} (hx : ks[j]? = some key) : findN key ks = j :=
  findN_is hx (ltB_irrefl key) fun i y hi hy => rising_iff.1 hr i j y key hi hy hx

theorem isN_iff {key : ByteArray} {ks : List ByteArray} : isN ks key = true ↔ ks[findN key ks]? = some key := by unfold isN; simp

/-- How many are not above a key. -/
theorem kidN_find {key : ByteArray} {ks : List ByteArray} (hr : risingK ks = true) : kidN ks key = findN key ks + (if isN ks key = true then 1 else 0) := by
  have hgen : ∀ n, n ≤ ks.length → (∀ j y, ks[j]? = some y → ((!ltB key y) = decide (j < n))) → kidN ks key = n := by
    intro n hn h
    unfold kidN
    have hp : ks.countP (fun k => !ltB key k) = ((ks.take n).countP fun k => !ltB key k) + ((ks.drop n).countP fun k => !ltB key k) := by
      rw [← List.countP_append, List.take_append_drop]
    have h1 : ((ks.take n).countP fun k => !ltB key k) = n := by
      rw [List.countP_eq_length.2, List.length_take]
      · omega
      · intro x hx
        obtain ⟨j, hj⟩ := List.getElem?_of_mem hx
        have hjl := (List.getElem?_eq_some_iff.1 hj).1
        rw [List.length_take] at hjl
        rw [List.getElem?_take_of_lt (by omega)] at hj
        rw [h j x hj]; simp; omega
    have h2 : ((ks.drop n).countP fun k => !ltB key k) = 0 := by
      rw [List.countP_eq_zero]
      intro x hx
      obtain ⟨j, hj⟩ := List.getElem?_of_mem hx
      rw [List.getElem?_drop] at hj
      rw [h (n + j) x hj]; simp
    rw [hp, h1, h2]; omega
  by_cases hi : isN ks key = true
  · rw [if_pos hi]
    have hat := isN_iff.1 hi
    have hl := (List.getElem?_eq_some_iff.1 hat).1
    refine hgen _ (by omega) fun j y hy => ?_
    rcases Nat.lt_trichotomy j (findN key ks) with h | h | h
    · rw [ltB_asymm (findN_ahead hy h), decide_eq_true (by omega)]; rfl
    · rw [h, hat] at hy
      cases hy
      rw [ltB_irrefl, decide_eq_true (by omega)]; rfl
    · rw [rising_iff.1 hr _ _ _ _ h hat hy, decide_eq_false (by omega)]; rfl
  · rw [if_neg hi, Nat.add_zero]
    refine hgen _ (findN_le _ _) fun j y hy => ?_
    by_cases h : j < findN key ks
    · rw [ltB_asymm (findN_ahead hy h), decide_eq_true h]; rfl
    · rw [decide_eq_false h]
      have h1 := findN_behind (key := key) hr hy (by omega)
      cases hc : ltB key y with
      | true => rfl
      | false =>
        have hyk : y = key := ltB_total h1 hc
        rw [hyk] at hy
        exact absurd (isN_iff.2 (by rw [findN_there hr hy]; exact hy)) hi

/-! Cut in two, and joined -/

theorem rising_take {ks : List ByteArray} (h : risingK ks = true) (n : Nat) : risingK (ks.take n) = true := by
  rw [rising_iff] at h ⊢
  intro i j x y hij hx hy
  rw [List.getElem?_take] at hx hy
  split at hx
  · split at hy
    · exact h i j x y hij hx hy
    · cases hy
  · cases hx

theorem rising_drop {ks : List ByteArray} (h : risingK ks = true) (n : Nat) : risingK (ks.drop n) = true := by
  rw [rising_iff] at h ⊢
  intro i j x y hij hx hy
  rw [List.getElem?_drop] at hx hy
  exact h (n + i) (n + j) x y (by omega) hx hy

/-- Both parts of a leaf of nine keys. -/
theorem cut_leaf {ks vs : List ByteArray} (h : standsN true ks vs [] = true) (h9 : ks.length = 9) :
    rightN true (ks.take 4) (vs.take 4) [] false = true ∧ rightN true (ks.drop 4) (vs.drop 4) [] false = true ∧ ks.take 4 ++ ks.drop 4 = ks ∧ vs.take 4 ++ vs.drop 4 = vs := by
  obtain ⟨_, hk, hr, hv, _, hs⟩ := standsN_iff.1 h
  obtain ⟨hl, _⟩ := shape_leaf.1 hs
  refine ⟨?_, ?_, List.take_append_drop _ _, List.take_append_drop _ _⟩
  · refine rightN_iff.2 ⟨standsN_iff.2 ⟨by rw [List.length_take]; omega, fun k hm => hk k (List.mem_of_mem_take hm), rising_take hr 4, fun v hm => hv v (List.mem_of_mem_take hm), fun c hm => (by cases hm), shape_leaf.2 ⟨by rw [List.length_take, List.length_take]; omega, rfl⟩⟩, by rw [List.length_take]; omega, .inr (by rw [List.length_take]; omega)⟩
  · refine rightN_iff.2 ⟨standsN_iff.2 ⟨by rw [List.length_drop]; omega, fun k hm => hk k (List.mem_of_mem_drop hm), rising_drop hr 4, fun v hm => hv v (List.mem_of_mem_drop hm), fun c hm => (by cases hm), shape_leaf.2 ⟨by rw [List.length_drop, List.length_drop]; omega, rfl⟩⟩, by rw [List.length_drop]; omega, .inr (by rw [List.length_drop]; omega)⟩

/-- Both parts of an inner one. -/
theorem cut_inner {ks : List ByteArray} {cs : List Int} (h : standsN false ks [] cs = true) (h9 : ks.length = 9) {mid : ByteArray} (hm : ks[4]? = some mid) :
    rightN false (ks.take 4) [] (cs.take 5) false = true ∧ rightN false (ks.drop 5) [] (cs.drop 5) false = true ∧ ks.take 4 ++ mid :: ks.drop 5 = ks ∧ cs.take 5 ++ cs.drop 5 = cs := by
  obtain ⟨_, hk, hr, _, hc, hs⟩ := standsN_iff.1 h
  obtain ⟨_, _, hl⟩ := shape_inner.1 hs
  refine ⟨?_, ?_, ?_, List.take_append_drop _ _⟩
  · refine rightN_iff.2 ⟨standsN_iff.2 ⟨by rw [List.length_take]; omega, fun k hm => hk k (List.mem_of_mem_take hm), rising_take hr 4, fun v hm => (by cases hm), fun c hm => hc c (List.mem_of_mem_take hm), shape_inner.2 ⟨rfl, by rw [List.length_take]; omega, by rw [List.length_take, List.length_take]; omega⟩⟩, by rw [List.length_take]; omega, .inr (by rw [List.length_take]; omega)⟩
  · refine rightN_iff.2 ⟨standsN_iff.2 ⟨by rw [List.length_drop]; omega, fun k hm => hk k (List.mem_of_mem_drop hm), rising_drop hr 5, fun v hm => (by cases hm), fun c hm => hc c (List.mem_of_mem_drop hm), shape_inner.2 ⟨rfl, by rw [List.length_drop]; omega, by rw [List.length_drop, List.length_drop]; omega⟩⟩, by rw [List.length_drop]; omega, .inr (by rw [List.length_drop]; omega)⟩
  · obtain ⟨hj, e⟩ := List.getElem?_eq_some_iff.1 hm
    rw [← e, ← List.drop_eq_getElem_cons hj, List.take_append_drop]

/-- Which side of the key between them the keys of both parts are. -/
theorem cut_sides {ks : List ByteArray} (hr : risingK ks = true) {mid : ByteArray} (hm : ks[4]? = some mid) : (∀ k ∈ ks.take 4, ltB k mid = true) ∧ (∀ k ∈ ks.drop 4, ltB k mid = false) ∧ ∀ k ∈ ks.drop 5, ltB k mid = false := by
  have hb : ∀ j x, 4 ≤ j → ks[j]? = some x → ltB x mid = false := by
    intro j x hj hx
    rcases Nat.lt_or_eq_of_le hj with h | h
    · exact ltB_asymm (rising_iff.1 hr 4 j mid x h hm hx)
    · rw [← h, hm] at hx
      cases hx
      exact ltB_irrefl _
  refine ⟨fun k hk => ?_, fun k hk => ?_, fun k hk => ?_⟩
  · obtain ⟨j, hj⟩ := List.getElem?_of_mem hk
    have hl := (List.getElem?_eq_some_iff.1 hj).1
    rw [List.length_take] at hl
    rw [List.getElem?_take_of_lt (by omega)] at hj
    exact rising_iff.1 hr j 4 k mid (by omega) hj hm
  · obtain ⟨j, hj⟩ := List.getElem?_of_mem hk
    rw [List.getElem?_drop] at hj
    exact hb (4 + j) k (by omega) hj
  · obtain ⟨j, hj⟩ := List.getElem?_of_mem hk
    rw [List.getElem?_drop] at hj
    exact hb (5 + j) k (by omega) hj

/-- Two nodes side by side. -/
def joinK (l : Bool) (ks : List ByteArray) (key : ByteArray) (ks' : List ByteArray) : List ByteArray := if l = true then ks ++ ks' else ks ++ key :: ks'
def joinE (l : Bool) (ks vs : List ByteArray) (cs : List Int) (key : ByteArray) (l' : Bool) (ks' vs' : List ByteArray) (cs' : List Int) : Int :=
  if standsN l ks vs cs = true ∧ standsN l' ks' vs' cs' = true ∧ l = l' ∧ standsN l (joinK l ks key ks') (vs ++ vs') (cs ++ cs') = true then 0 else 1
def joinKs (l : Bool) (ks vs : List ByteArray) (cs : List Int) (key : ByteArray) (l' : Bool) (ks' vs' : List ByteArray) (cs' : List Int) : List ByteArray := if joinE l ks vs cs key l' ks' vs' cs' = 0 then joinK l ks key ks' else []
def joinVs (l : Bool) (ks vs : List ByteArray) (cs : List Int) (key : ByteArray) (l' : Bool) (ks' vs' : List ByteArray) (cs' : List Int) : List ByteArray := if joinE l ks vs cs key l' ks' vs' cs' = 0 then vs ++ vs' else []
def joinCs (l : Bool) (ks vs : List ByteArray) (cs : List Int) (key : ByteArray) (l' : Bool) (ks' vs' : List ByteArray) (cs' : List Int) : List Int := if joinE l ks vs cs key l' ks' vs' cs' = 0 then cs ++ cs' else []
def joinL (l : Bool) (ks vs : List ByteArray) (cs : List Int) (key : ByteArray) (l' : Bool) (ks' vs' : List ByteArray) (cs' : List Int) : Bool := if joinE l ks vs cs key l' ks' vs' cs' = 0 then l else false

/-- The error of cutting, and what is cut. -/
def cutNE (l : Bool) (ks vs : List ByteArray) (cs : List Int) : Int := if standsN l ks vs cs = true ∧ ks.length = 9 then 0 else 1
/-- From which key on the second part has them. -/
def cutFrom (l : Bool) : Nat := if l = true then 4 else 5

/-- What is cut, joined, is the node. -/
theorem cut_join {l : Bool} {ks vs : List ByteArray} {cs : List Int} (h : standsN l ks vs cs = true) (h9 : ks.length = 9) {mid : ByteArray} (hm : ks[4]? = some mid) :
    rightN l (ks.take 4) (vs.take 4) (cs.take 5) false = true ∧ rightN l (ks.drop (cutFrom l)) (vs.drop 4) (cs.drop 5) false = true ∧ joinK l (ks.take 4) mid (ks.drop (cutFrom l)) = ks ∧ vs.take 4 ++ vs.drop 4 = vs ∧ cs.take 5 ++ cs.drop 5 = cs := by
  obtain ⟨_, _, _, _, _, hs⟩ := standsN_iff.1 h
  cases l with
  | true =>
    obtain rfl : cs = [] := List.length_eq_zero_iff.1 (shape_leaf.1 hs).2
    obtain ⟨a, b, c, d⟩ := cut_leaf h h9
    exact ⟨a, b, c, d, rfl⟩
  | false =>
    obtain rfl : vs = [] := List.length_eq_zero_iff.1 (shape_inner.1 hs).1
    obtain ⟨a, b, c, d⟩ := cut_inner h h9 hm
    exact ⟨a, b, c, rfl, d⟩

/-- Where a key stands in a node, and whether it is there: 0 and no of one that may not stand. -/
def findR (l : Bool) (ks vs : List ByteArray) (cs : List Int) (key : ByteArray) : Int := if standsN l ks vs cs = true then (findN key ks : Nat) else 0
def findI (l : Bool) (ks vs : List ByteArray) (cs : List Int) (key : ByteArray) : Bool := standsN l ks vs cs && isN ks key
def kidR (l : Bool) (ks vs : List ByteArray) (cs : List Int) (key : ByteArray) : Int := if standsN l ks vs cs = true ∧ l = false then (kidN ks key : Nat) else 0

end Go.Proofs.YtaecfbfcjaailaaGreat.Plain

namespace Go.Proofs.YtaecfbfcjaailaaGreat
open Go.RowKit Plain
set_option linter.unusedVariables false

/-- STANDS, the rows' lengths as letters. -/
theorem refStands_at {l : Bool} {a a' a'' : Option Addr} {c c' c'' n n' n'' : Nat} {ks vs : List ByteArray} {cs : List Int} {w : World} (hn : n = ks.length) (hn' : n' = vs.length) (hn'' : n'' = cs.length) (hK : IsS w a c ks) (hV : IsS w a' c' vs) (hC : IsI w a'' c'' cs) :
    Calls Tryz.prog 74 #[.agg #[.bool l, .slice a n c, .slice a' n' c', .slice a'' n'' c'']] w fun e w' => e = .returned (.bool (standsN l ks vs cs)) ∧ Below w.heap.size w w' := by
  subst hn hn' hn''; exact refStands_any l a a' a'' c c' c'' ks vs cs w hK hV hC

set_option maxHeartbeats 1000000 in
/-- RIGHT, at all nodes. -/
theorem refNodeRight_any (l : Bool) (a a' a'' : Option Addr) (c c' c'' n n' n'' : Nat) (ks vs : List ByteArray) (cs : List Int) (root : Bool) (w : World) (hn : n = ks.length) (hn' : n' = vs.length) (hn'' : n'' = cs.length) (hK : IsS w a c ks) (hV : IsS w a' c' vs) (hC : IsI w a'' c'' cs) :
    Calls Tryz.prog 59 #[.agg #[.bool l, .slice a n c, .slice a' n' c', .slice a'' n'' c''], .bool root] w fun e w' => e = .returned (.bool (rightN l ks vs cs root)) ∧ Below w.heap.size w w' := by
  have hB0 : Below w.heap.size w (w.alloc (.cells #[.bool l, .slice a n c, .slice a' n' c', .slice a'' n'' c''] 76)) := (Below.refl _ _).alloc (Nat.le_refl _) _
  have hX := box4_new w (.bool l) (.slice a n c) (.slice a' n' c') (.slice a'' n'' c'') 76 rfl
  have cS := refStands_at (l := l) hn hn' hn'' (hK.below hB0) (hV.below hB0) (hC.below hB0)
  have hm : n ≤ 9223372036854775807 := by rw [hn]; exact hK.size
  have HE : Hid (rightN l ks vs cs root = (standsN l ks vs cs && decide ((n : Int) ≤ 8) && (root || decide (4 ≤ (n : Int))))) := by
    show _ = _
    rw [hn]; unfold rightN
    congr 1
    · congr 1
      rw [decide_eq_decide]; omega
    · congr 1
      rw [decide_eq_decide]; omega
  clear hn hn' hn'' hK hV hC
  cases hs : standsN l ks vs cs with
  | true =>
    rw [hs] at cS HE
    by_cases h8 : (n : Int) ≤ 8
    · cases root with
      | true =>
        go_enter Tryz.func59, Tryz.ntmps59
        go_wp2_with (go_at_call 74; refine cS.mono ?_; rintro e w1 ⟨rfl, hb⟩; obtain ⟨⟨q0, q1, q2, q3⟩, -⟩ := hX.below hb; have hB1 := Below.tr hB0 hb)
        go_ret
        exact ⟨ret_bool (by rw [HE.out]; simp [h8]), hB1⟩
      | false =>
        go_enter Tryz.func59, Tryz.ntmps59
        go_wp2_with (go_at_call 74; refine cS.mono ?_; rintro e w1 ⟨rfl, hb⟩; obtain ⟨⟨q0, q1, q2, q3⟩, -⟩ := hX.below hb; have hB1 := Below.tr hB0 hb)
        go_ret
        exact ⟨ret_bool (by rw [HE.out]; simp [h8]), hB1⟩
    · go_enter Tryz.func59, Tryz.ntmps59
      go_wp2_with (go_at_call 74; refine cS.mono ?_; rintro e w1 ⟨rfl, hb⟩; obtain ⟨⟨q0, q1, q2, q3⟩, -⟩ := hX.below hb; have hB1 := Below.tr hB0 hb)
      go_ret
      exact ⟨ret_bool (by rw [HE.out, decide_eq_false (p := (n : Int) ≤ 8) (by omega)]; simp), hB1⟩
  | false =>
    rw [hs] at cS HE
    go_enter Tryz.func59, Tryz.ntmps59
    go_wp2_with (go_at_call 74; refine cS.mono ?_; rintro e w1 ⟨rfl, hb⟩; obtain ⟨⟨q0, q1, q2, q3⟩, -⟩ := hX.below hb; have hB1 := Below.tr hB0 hb)
    go_ret
    exact ⟨ret_bool (by rw [HE.out]; simp), hB1⟩

theorem isN_at {key x : ByteArray} {ks : List ByteArray} {j : Nat} (hf : findN key ks = j) (hx : ks[j]? = some x) : isN ks key = (x.toList == key.toList) := by
  rw [Bool.eq_iff_iff, isN_iff, hf, hx, str_beq]
  exact ⟨fun h => Option.some.inj h, fun h => by rw [h]⟩

theorem isN_none {key : ByteArray} {ks : List ByteArray} (hf : findN key ks = ks.length) : isN ks key = false := by
  rw [Bool.eq_false_iff]
  intro h
  rw [isN_iff, hf, List.getElem?_eq_none (Nat.le_refl _)] at h
  cases h

theorem kid_step {key x : ByteArray} {ks : List ByteArray} {j : Nat} (hx : ks[j]? = some x) : kidN (ks.take (j + 1)) key = kidN (ks.take j) key + (if ltB key x = true then 0 else 1) := by
  unfold kidN
  rw [List.take_add_one, hx, List.countP_append]
  congr 1
  cases h : ltB key x <;> simp [h]

end Go.Proofs.YtaecfbfcjaailaaGreat

namespace Go.Proofs.YtaecfbfcjaailaaGreat
open Go.RowKit Plain Anylast
set_option linter.unusedVariables false

theorem leaf_err {s : ByteArray} {e : Int} {j c : Nat} (h0 : getE s 0 1 = 0) (hc : getR s 0 1 = c) (h : leafSt s j = .inl e) (hj : j ≤ c) : leafR s = .inl e := by
  obtain ⟨d, rfl⟩ : ∃ d, c = j + d := ⟨c - j, by omega⟩
  unfold leafR
  rw [if_pos h0, hc, Int.toNat_natCast, leafSt_stuck h d]

theorem leaf_end {s : ByteArray} {p : Int} {ks vs : List ByteArray} {c : Nat} (h0 : getE s 0 1 = 0) (hc : getR s 0 1 = c) (h : leafSt s c = .inr (p, ks, vs)) : leafR s = if p = s.size ∧ rightN true ks vs [] true = true then .inr (true, ks, vs, []) else .inl 4 := by
  unfold leafR
  rw [if_pos h0, hc, Int.toNat_natCast, h]

set_option maxRecDepth 20000 in
set_option maxHeartbeats 4000000 in
/-- A leaf. -/
theorem refGetLeaf_any (s : ByteArray) (w : World) (hs : s.size ≤ maxLen) :
    Calls Tryz.prog 58 #[.int .i64 1, .string s] w fun x w' => Answers w x w' (gN 1 s).1 (gN 1 s).2.1 (gN 1 s).2.2.1 (gN 1 s).2.2.2 (gE 1 s) := by
  obtain ⟨Q, hQ⟩ : ∃ Q : Ending → World → Prop, Q = fun x w' => Answers w x w' (gN 1 s).1 (gN 1 s).2.1 (gN 1 s).2.2.1 (gN 1 s).2.2.2 (gE 1 s) := ⟨_, rfl⟩
  have hN : nodeR 1 s = leafR s := by unfold nodeR; rw [if_pos rfl]
  have HQ : Hid (∀ e, leafR s = .inl e → ∀ x w', Answers w x w' false [] [] [] e → Q x w') := fun e h x w' ha => by
    obtain ⟨g1, g2⟩ := g_inl (hN.trans h)
    rw [hQ, g1, g2]; exact ha
  have HQ2 : Hid (∀ y, leafR s = .inr y → ∀ x w', Answers w x w' y.1 y.2.1 y.2.2.1 y.2.2.2 0 → Q x w') := fun y h x w' ha => by
    obtain ⟨g1, g2⟩ := g_inr (hN.trans h)
    rw [hQ, g1, g2]; exact ha
  rw [← hQ]
  clear hQ hN
  obtain ⟨W, hW, b0, bn, hB0, hsz⟩ := node_two w 76 true (.slice none 0 0)
  have N0 : NodeAt W (w.heap.size + 1) (w.heap.size + 2) true (.slice none 0 0) (.slice none 0 0) (.slice none 0 0) [] [] [] := nodeAt_new bn (by omega)
  have hle : w.heap.size ≤ w.heap.size := Nat.le_refl _
  have cG := fun V => refGet_any s 0 1 V hs
  by_cases h0 : getE s 0 1 = 0
  · obtain ⟨e1, e2, e3⟩ := rn_one h0
    obtain ⟨c, hc, hc2⟩ := rn_count s
    rw [e3] at hc
    have eT : getT s 0 1 = 1 := by
      have h' : getE s ((0 : Nat) : Int) ((1 : Nat) : Int) = 0 := h0
      exact (get_num h').2.1
    rw [hc, eT, h0] at cG
    have HE : Hid (∀ e j, leafSt s j = .inl e → j ≤ c → leafR s = .inl e) := fun e j h hj => leaf_err h0 hc h hj
    have HF : Hid (∀ p ks vs, leafSt s c = .inr (p, ks, vs) → leafR s = if p = s.size ∧ rightN true ks vs [] true = true then .inr (true, ks, vs, []) else .inl 4) := fun p ks vs h => leaf_end h0 hc h
    have HS : Hid (s.size ≤ maxLen) := hs
    have hm : s.size ≤ 9223372036854775807 := hs
    clear e1 e2 e3 hc eT h0 hs bn hsz
    go_enter Tryz.func58, Tryz.ntmps58
    go_wp2_with (go_at_call 40; rw [← hW]; refine (cG _).mono ?_; rintro y w1 ⟨rfl, rfl⟩)
    rw [← hW]
    clear hW cG
    go_loopw [8, 10] (fun v8 v10 wr => ∃ (j : Nat) (p : Int) (u1 u2 : Value) (xs ys : List ByteArray), j ≤ c ∧ v10 = .int .i64 j ∧ v8 = .int .i64 p ∧ leafSt s j = .inr (p, xs, ys) ∧ NodeAt wr (w.heap.size + 1) (w.heap.size + 2) true u1 u2 (.slice none 0 0) xs ys [] ∧ (∀ x ∈ xs, x.size ≤ s.size) ∧ (∀ x ∈ ys, x.size ≤ s.size) ∧ Box4 wr w.heap.size (.bool false) (.slice none 0 0) (.slice none 0 0) (.slice none 0 0) ∧ Below w.heap.size w wr) (fun _ v10 _ => c - (intOf v10).toNat)
    case atStart => exact ⟨0, 1, _, _, [], [], by omega, rfl, rfl, rfl, N0, fun x h => (by cases h), fun x h => (by cases h), b0, hB0⟩
    case round =>
      clear N0 b0 hB0
      obtain ⟨j, p, u1, u2, xs, ys, hj, rfl, rfl, hst, N, sx, sy, b0, HB⟩ := hrel
      obtain ⟨l1, l2⟩ := leafSt_length hst
      by_cases hlt : j < c
      · have hlt' : (j : Int) < c := by omega
        have cC1 := fun V => refCut_any s p V HS.out
        obtain ⟨k1, hk1⟩ : ∃ x, x = cutS s p := ⟨_, rfl⟩
        obtain ⟨p1, hp1⟩ : ∃ x, x = cutT s p := ⟨_, rfl⟩
        obtain ⟨E1, hE1⟩ : ∃ x, x = cutE s p := ⟨_, rfl⟩
        rw [← hk1, ← hp1, ← hE1] at cC1
        obtain ⟨⟨r0, r1, r2, r3⟩, g0, g1, g2, g3⟩ := id b0
        have hst' : leafSt s (j + 1) = if E1 = 0 then (if cutE s p1 = 0 then .inr (cutT s p1, xs ++ [k1], ys ++ [cutS s p1]) else .inl (cutE s p1)) else .inl E1 := by
          rw [leafSt, hst, hk1, hp1, hE1]
        by_cases z1 : E1 = 0
        · subst z1
          rw [if_pos rfl] at hst'
          have cC2 := fun V => refCut_any s p1 V HS.out
          obtain ⟨k2, hk2⟩ : ∃ x, x = cutS s p1 := ⟨_, rfl⟩
          obtain ⟨p2, hp2⟩ : ∃ x, x = cutT s p1 := ⟨_, rfl⟩
          obtain ⟨E2, hE2⟩ : ∃ x, x = cutE s p1 := ⟨_, rfl⟩
          rw [← hk2, ← hp2, ← hE2] at cC2 hst'
          have sk1 : k1.size ≤ s.size := by rw [hk1]; exact cutS_size s p
          have sk2 : k2.size ≤ s.size := by rw [hk2]; exact cutS_size s p1
          obtain ⟨ga, cap, V3, hrun1, b3, N4, T4⟩ := N.push1 k1 (by omega)
          obtain ⟨V4, hV4⟩ : ∃ V, V = V3.setCell ⟨w.heap.size + 1, 1, none⟩ (.slice (some ⟨ga, 0, none⟩) (xs.length + 1) cap) := ⟨_, rfl⟩
          rw [← hV4] at N4 T4
          have HB4 : Below w.heap.size w V4 := Below.turns HB T4 (fun k hk => by rcases hk with h | h <;> omega)
          have b04 := b0.turns T4 (by rintro (h | h) <;> omega)
          obtain ⟨⟨q0, q1, q2, q3⟩, -⟩ := N.box
          have Q1 := fun o => cell_alloc q1 o
          obtain ⟨⟨q03, q13, q23, q33⟩, f0, f1, f2, f3⟩ := id b3
          have HST : Hid (leafSt s (j + 1) = if E2 = 0 then .inr (p2, xs ++ [k1], ys ++ [k2]) else .inl E2) := hst'
          have SX : Hid (∀ x ∈ xs ++ [k1], x.size ≤ s.size) := fun x hx => by
            rcases List.mem_append.1 hx with h | h
            · exact sx x h
            · obtain rfl : x = k1 := by simpa using h
              exact sk1
          have SY : Hid (∀ x ∈ ys ++ [k2], x.size ≤ s.size) := fun x hx => by
            rcases List.mem_append.1 hx with h | h
            · exact sy x h
            · obtain rfl : x = k2 := by simpa using h
              exact sk2
          obtain ⟨⟨s0, s1, s2, s3⟩, -⟩ := N4.box
          have S2 := fun o => cell_alloc s2 o
          by_cases z2 : E2 = 0
          · subst z2
            obtain ⟨gb, cap2, U3, hrun2, b5, N8, T8⟩ := N4.push2 k2 (by omega)
            obtain ⟨U4, hU4⟩ : ∃ V, V = U3.setCell ⟨w.heap.size + 1, 2, none⟩ (.slice (some ⟨gb, 0, none⟩) (ys.length + 1) cap2) := ⟨_, rfl⟩
            rw [← hU4] at N8 T8
            have NH : Hid (NodeAt U4 (w.heap.size + 1) (w.heap.size + 2) true (.slice (some ⟨ga, 0, none⟩) (xs.length + 1) cap) (.slice (some ⟨gb, 0, none⟩) (ys.length + 1) cap2) (.slice none 0 0) (xs ++ [k1]) (ys ++ [k2]) []) := N8
            have BH : Hid (Box4 U4 w.heap.size (.bool false) (.slice none 0 0) (.slice none 0 0) (.slice none 0 0) ∧ Below w.heap.size w U4) := ⟨b04.turns T8 (by rintro (h | h) <;> omega), Below.turns HB4 T8 (fun k hk => by rcases hk with h | h <;> omega)⟩
            obtain ⟨⟨q05, q15, q25, q35⟩, h0, h1, h2, h3⟩ := id b5
            have HV4 : Hid (V4 = V3.setCell ⟨w.heap.size + 1, 1, none⟩ (.slice (some ⟨ga, 0, none⟩) (xs.length + 1) cap)) := hV4
            have HU4 : Hid (U4 = U3.setCell ⟨w.heap.size + 1, 2, none⟩ (.slice (some ⟨gb, 0, none⟩) (ys.length + 1) cap2)) := hU4
            have t1 : True := trivial
            clear hk1 hp1 hE1 hk2 hp2 hE2 hst hst' l1 l2 hV4 hU4 N N4 N8 T4 T8 b3 b5 sx sy sk1 sk2 b0 b04 HB4
            go_wp2_with (first
              | (go_at_call 73; have _t := t1; refine (cC1 _).mono ?_; rintro y w1 ⟨rfl, rfl⟩)
              | (at_builtin; have _t := t1; refine Lib.wpList_append_run _ rfl _ _ _ _ rfl _ _ rfl rfl _ _ hrun1 ?_; clear t1 _t)
              | (go_at_call 73; rw [← HV4.out]; refine (cC2 _).mono ?_; rintro y w1 ⟨rfl, rfl⟩)
              | (at_builtin; refine Lib.wpList_append_run _ rfl _ _ _ _ rfl _ _ rfl rfl _ _ hrun2 ?_))
            go_roundw
            case rel => exact ⟨j + 1, p2, .slice (some ⟨ga, 0, none⟩) (xs.length + 1) cap, .slice (some ⟨gb, 0, none⟩) (ys.length + 1) cap2, xs ++ [k1], ys ++ [k2], by omega, by go_num, rfl, by rw [HST.out]; simp, by rw [← HU4.out]; exact NH.out, SX.out, SY.out, by rw [← HU4.out]; exact BH.out.1, by rw [← HU4.out]; exact BH.out.2⟩
            case measure => simp [intOf]; omega
          · have z2' : (E2 != 0) = true := by simpa using z2
            have HEE : Hid (leafR s = .inl E2) := HE.out E2 (j + 1) (by rw [HST.out, if_neg z2]) (by omega)
            have HV4 : Hid (V4 = V3.setCell ⟨w.heap.size + 1, 1, none⟩ (.slice (some ⟨ga, 0, none⟩) (xs.length + 1) cap)) := hV4
            have t1 : True := trivial
            clear r0 r1 r2 r3 g0 g1 g2 g3
            obtain ⟨⟨r0, r1, r2, r3⟩, g0, g1, g2, g3⟩ := id b04
            clear hk1 hp1 hE1 hk2 hp2 hE2 hst hst' l1 l2 hV4 N N4 T4 b3 sx sy sk1 sk2 b0 b04 HB z2
            go_wp2_with (first
              | (go_at_call 73; have _t := t1; refine (cC1 _).mono ?_; rintro y w1 ⟨rfl, rfl⟩)
              | (at_builtin; have _t := t1; refine Lib.wpList_append_run _ rfl _ _ _ _ rfl _ _ rfl rfl _ _ hrun1 ?_; clear t1 _t)
              | (go_at_call 73; rw [← HV4.out]; refine (cC2 _).mono ?_; rintro y w1 ⟨rfl, rfl⟩))
            refine bodyPost_ret (v := .tuple #[.agg #[.bool false, .slice none 0 0, .slice none 0 0, .slice none 0 0], .int .i64 E2]) (by simp [results, Tryz.results58, go_sem, r0, r1, r2, r3]) rfl (HQ.out _ HEE.out _ _ (answers_none (below_put4 HB4 hle _ _ _ _)))
        · have z1' : (E1 != 0) = true := by simpa using z1
          have HEE : Hid (leafR s = .inl E1) := HE.out E1 (j + 1) (by rw [hst', if_neg z1]) (by omega)
          clear hk1 hp1 hE1 hst hst' l1 l2 N sx sy b0 z1
          go_wp2_with (go_at_call 73; refine (cC1 _).mono ?_; rintro y w1 ⟨rfl, rfl⟩)
          refine bodyPost_ret (v := .tuple #[.agg #[.bool false, .slice none 0 0, .slice none 0 0, .slice none 0 0], .int .i64 E1]) (by simp [results, Tryz.results58, go_sem, r0, r1, r2, r3]) rfl (HQ.out _ HEE.out _ _ (answers_none (below_put4 HB hle _ _ _ _)))
      · obtain rfl : j = c := by omega
        have hfin : Hid (leafR s = if p = s.size ∧ rightN true xs ys [] true = true then .inr (true, xs, ys, []) else .inl 4) := HF.out p xs ys hst
        have X1 : Hid (∀ x ∈ xs, x.size ≤ maxLen) := fun x hx => Nat.le_trans (sx x hx) HS.out
        have X2 : Hid (∀ x ∈ ys, x.size ≤ maxLen) := fun x hx => Nat.le_trans (sy x hx) HS.out
        obtain ⟨a, d, a', d', a'', d'', rfl, rfl, e3, i1, i2, i3, j1, j2, j3⟩ := N.rows X1.out X2.out
        have NH : Hid (NodeAt wr (w.heap.size + 1) (w.heap.size + 2) true (.slice a xs.length d) (.slice a' ys.length d') (.slice none 0 0) xs ys []) := N
        obtain ⟨⟨q0, q1, q2, q3⟩, -⟩ := N.box
        have cR : Calls Tryz.prog 59 #[.agg #[.bool true, .slice a xs.length d, .slice a' ys.length d', .slice none 0 0], .bool true] wr fun e w' => e = .returned (.bool (rightN true xs ys [] true)) ∧ Below wr.heap.size wr w' := refNodeRight_any true a a' none d d' 0 _ _ 0 xs ys [] true wr rfl rfl rfl i1 i2 (isI_nil _)
        clear l1 l2 hst sx sy e3 i1 i2 i3
        by_cases hP : p = s.size
        · subst hP
          cases hr : rightN true xs ys [] true with
          | true =>
            rw [hr] at cR hfin
            replace hfin : Hid (leafR s = .inr (true, xs, ys, [])) := by show _ = _; rw [hfin.out, if_pos ⟨rfl, rfl⟩]
            clear hr
            have J1 : Hid (From (w.heap.size + 2) a) := j1
            have J2 : Hid (From (w.heap.size + 2) a') := j2
            clear j1 j2 j3 N
            go_wp2_with (go_at_call 59; refine cR.mono ?_; rintro y w1 ⟨rfl, hb⟩; have NH1 : Hid (NodeAt w1 (w.heap.size + 1) (w.heap.size + 2) true (.slice a xs.length d) (.slice a' ys.length d') (.slice none 0 0) xs ys []) := NH.out.below hb; replace b0 := b0.below hb; replace HB := Below.tr HB hb; obtain ⟨⟨r0, r1, r2, r3⟩, g0, g1, g2, g3⟩ := id b0; clear q0 q1 q2 q3; obtain ⟨⟨q0, q1, q2, q3⟩, -⟩ := NH1.out.box; clear hb)
            have N4 := (((NH1.out.other (k := w.heap.size) (by omega) (by omega) 0 (.bool true)).other (k := w.heap.size) (by omega) (by omega) 1 (.slice a xs.length d)).other (k := w.heap.size) (by omega) (by omega) 2 (.slice a' ys.length d')).other (k := w.heap.size) (by omega) (by omega) 3 (.slice none 0 0)
            obtain ⟨a1, d1, a1', d1', a1'', d1'', e1, e2, e3, i1, i2, i3, -, -, -⟩ := N4.rows X1.out X2.out
            cases e1
            cases e2
            exact bodyPost_ret (v := .tuple #[.agg #[.bool true, .slice a xs.length d, .slice a' ys.length d', .slice none 0 0], .int .i64 0]) (by simp [results, Tryz.results58, go_sem, r0, r1, r2, r3]) rfl (HQ2.out _ hfin.out _ _ ⟨_, a, d, _, a', d', 0, none, 0, rfl, rfl, rfl, rfl, i1, i2, isI_nil _, J1.out.mono (by omega), J2.out.mono (by omega), from_nil _, below_put4 HB hle _ _ _ _⟩)
          | false =>
            rw [hr] at cR hfin
            replace hfin : Hid (leafR s = .inl 4) := by show _ = _; rw [hfin.out, if_neg (by simp)]
            clear hr j1 j2 j3 N
            go_wp2_with (go_at_call 59; refine cR.mono ?_; rintro y w1 ⟨rfl, hb⟩; replace b0 := b0.below hb; replace HB := Below.tr HB hb; obtain ⟨⟨r0, r1, r2, r3⟩, g0, g1, g2, g3⟩ := id b0; clear q0 q1 q2 q3 hb)
            refine bodyPost_ret (v := .tuple #[.agg #[.bool false, .slice none 0 0, .slice none 0 0, .slice none 0 0], .int .i64 4]) (by simp [results, Tryz.results58, go_sem, r0, r1, r2, r3]) rfl (HQ.out _ hfin.out _ _ (answers_none (below_put4 HB hle _ _ _ _)))
        · have hP' : (p != (s.size : Int)) = true := by simpa using hP
          replace hfin : Hid (leafR s = .inl 4) := by show _ = _; rw [hfin.out, if_neg (fun h => hP h.1)]
          obtain ⟨⟨r0, r1, r2, r3⟩, g0, g1, g2, g3⟩ := id b0
          clear j1 j2 j3 N cR hP
          go_wp2
          refine bodyPost_ret (v := .tuple #[.agg #[.bool false, .slice none 0 0, .slice none 0 0, .slice none 0 0], .int .i64 4]) (by simp [results, Tryz.results58, go_sem, r0, r1, r2, r3]) rfl (HQ.out _ hfin.out _ _ (answers_none (below_put4 HB hle _ _ _ _)))
  · have hb' : (getE s 0 1 != 0) = true := by simpa using h0
    have eR : getR s 0 1 = 0 := by unfold getR; rw [if_neg h0]
    have HEE : Hid (leafR s = .inl (getE s 0 1)) := by show _ = _; unfold leafR; rw [if_neg h0]
    rw [eR] at cG
    generalize getE s 0 1 = E1 at *
    generalize getT s 0 1 = T1 at *
    obtain ⟨⟨r0, r1, r2, r3⟩, g0, g1, g2, g3⟩ := id b0
    clear eR h0 N0 bn hsz
    go_enter Tryz.func58, Tryz.ntmps58
    go_wp2_with (go_at_call 40; rw [← hW]; refine (cG _).mono ?_; rintro y w1 ⟨rfl, rfl⟩)
    rw [← hW]
    clear hW cG
    go_loopw [10] (fun v wr => v = .int .i64 0 ∧ wr = W) (fun _ _ => 0)
    case atStart => exact ⟨rfl, rfl⟩
    case round =>
      obtain ⟨rfl, hwr⟩ := hrel
      subst hwr
      go_wp2
      refine bodyPost_ret (v := .tuple #[.agg #[.bool false, .slice none 0 0, .slice none 0 0, .slice none 0 0], .int .i64 E1]) (by simp [results, Tryz.results58, go_sem, r0, r1, r2, r3]) rfl (HQ.out _ HEE.out _ _ (answers_none (below_put4 hB0 hle _ _ _ _)))

end Go.Proofs.YtaecfbfcjaailaaGreat

namespace Go.Proofs.YtaecfbfcjaailaaGreat
open Go.RowKit Plain Anylast
set_option linter.unusedVariables false

theorem inn_err {s : ByteArray} {e : Int} {j c : Nat} (h0 : getE s 0 1 = 0) (hc : getR s 0 1 = c) (h : innSt s j = .inl e) (hj : j ≤ c) : innR s = .inl e := by
  obtain ⟨d, rfl⟩ : ∃ d, c = j + d := ⟨c - j, by omega⟩
  unfold innR
  rw [if_pos h0, hc, Int.toNat_natCast, innSt_stuck h d]

theorem inn_end {s : ByteArray} {p : Int} {ks : List ByteArray} {cs : List Int} {c : Nat} (h0 : getE s 0 1 = 0) (hc : getR s 0 1 = c) (h : innSt s c = .inr (p, ks, cs)) : innR s = if getE s p 2 = 0 then (if getT s p 2 = s.size ∧ rightN false ks [] (cs ++ [getR s p 2]) true = true then .inr (false, ks, [], cs ++ [getR s p 2]) else .inl 4) else .inl (getE s p 2) := by
  unfold innR
  rw [if_pos h0, hc, Int.toNat_natCast, h]

set_option maxRecDepth 20000 in
set_option maxHeartbeats 4000000 in
/-- An inner node. -/
theorem refGetInner_any (s : ByteArray) (w : World) (hs : s.size ≤ maxLen) :
    Calls Tryz.prog 58 #[.int .i64 2, .string s] w fun x w' => Answers w x w' (gN 2 s).1 (gN 2 s).2.1 (gN 2 s).2.2.1 (gN 2 s).2.2.2 (gE 2 s) := by
  obtain ⟨Q, hQ⟩ : ∃ Q : Ending → World → Prop, Q = fun x w' => Answers w x w' (gN 2 s).1 (gN 2 s).2.1 (gN 2 s).2.2.1 (gN 2 s).2.2.2 (gE 2 s) := ⟨_, rfl⟩
  have hN : nodeR 2 s = innR s := by unfold nodeR; rw [if_neg (by decide), if_pos rfl]
  have HQ : Hid (∀ e, innR s = .inl e → ∀ x w', Answers w x w' false [] [] [] e → Q x w') := fun e h x w' ha => by
    obtain ⟨g1, g2⟩ := g_inl (hN.trans h)
    rw [hQ, g1, g2]; exact ha
  have HQ2 : Hid (∀ y, innR s = .inr y → ∀ x w', Answers w x w' y.1 y.2.1 y.2.2.1 y.2.2.2 0 → Q x w') := fun y h x w' ha => by
    obtain ⟨g1, g2⟩ := g_inr (hN.trans h)
    rw [hQ, g1, g2]; exact ha
  rw [← hQ]
  clear hQ hN
  obtain ⟨W, hW, b0, bn, hB0, hsz⟩ := node_two w 76 false (.slice none 0 0)
  have N0 : NodeAt W (w.heap.size + 1) (w.heap.size + 2) false (.slice none 0 0) (.slice none 0 0) (.slice none 0 0) [] [] [] := nodeAt_new bn (by omega)
  have hle : w.heap.size ≤ w.heap.size := Nat.le_refl _
  have cG := fun V => refGet_any s 0 1 V hs
  by_cases h0 : getE s 0 1 = 0
  · obtain ⟨e1, e2, e3⟩ := rn_one h0
    obtain ⟨c, hc, hc2⟩ := rn_count s
    rw [e3] at hc
    have eT : getT s 0 1 = 1 := by
      have h' : getE s ((0 : Nat) : Int) ((1 : Nat) : Int) = 0 := h0
      exact (get_num h').2.1
    rw [hc, eT, h0] at cG
    have HE : Hid (∀ e j, innSt s j = .inl e → j ≤ c → innR s = .inl e) := fun e j h hj => inn_err h0 hc h hj
    have HF : Hid (∀ p ks cs, innSt s c = .inr (p, ks, cs) → innR s = if getE s p 2 = 0 then (if getT s p 2 = s.size ∧ rightN false ks [] (cs ++ [getR s p 2]) true = true then .inr (false, ks, [], cs ++ [getR s p 2]) else .inl 4) else .inl (getE s p 2)) := fun p ks cs h => inn_end h0 hc h
    have HS : Hid (s.size ≤ maxLen) := hs
    have hm : s.size ≤ 9223372036854775807 := hs
    clear e1 e2 e3 hc eT h0 hs bn hsz
    go_enter Tryz.func58, Tryz.ntmps58
    go_wp2_with (go_at_call 40; rw [← hW]; refine (cG _).mono ?_; rintro y w1 ⟨rfl, rfl⟩)
    rw [← hW]
    clear hW cG
    go_loopw [8, 10] (fun v8 v10 wr => ∃ (j : Nat) (p : Int) (u1 u3 : Value) (xs : List ByteArray) (zs : List Int), j ≤ c ∧ v10 = .int .i64 j ∧ v8 = .int .i64 p ∧ innSt s j = .inr (p, xs, zs) ∧ NodeAt wr (w.heap.size + 1) (w.heap.size + 2) false u1 (.slice none 0 0) u3 xs [] zs ∧ (∀ x ∈ xs, x.size ≤ s.size) ∧ Box4 wr w.heap.size (.bool false) (.slice none 0 0) (.slice none 0 0) (.slice none 0 0) ∧ Below w.heap.size w wr) (fun _ v10 _ => c - (intOf v10).toNat)
    case atStart => exact ⟨0, 1, _, _, [], [], by omega, rfl, rfl, rfl, N0, fun x h => (by cases h), b0, hB0⟩
    case round =>
      clear N0 b0 hB0
      obtain ⟨j, p, u1, u3, xs, zs, hj, rfl, rfl, hst, N, sx, b0, HB⟩ := hrel
      obtain ⟨l1, l2⟩ := innSt_length hst
      have cC1 := fun V => refGet_any s p 2 V HS.out
      obtain ⟨k1, hk1⟩ : ∃ x, x = getR s p 2 := ⟨_, rfl⟩
      obtain ⟨p1, hp1⟩ : ∃ x, x = getT s p 2 := ⟨_, rfl⟩
      obtain ⟨E1, hE1⟩ : ∃ x, x = getE s p 2 := ⟨_, rfl⟩
      rw [← hk1, ← hp1, ← hE1] at cC1
      obtain ⟨⟨r0, r1, r2, r3⟩, g0, g1, g2, g3⟩ := id b0
      obtain ⟨ga, cap, V3, hrun1, b3, N4, T4⟩ := N.push3 k1 (by omega)
      obtain ⟨V4, hV4⟩ : ∃ V, V = V3.setCell ⟨w.heap.size + 1, 3, none⟩ (.slice (some ⟨ga, 0, none⟩) (zs.length + 1) cap) := ⟨_, rfl⟩
      rw [← hV4] at N4 T4
      have HB4 : Below w.heap.size w V4 := Below.turns HB T4 (fun k hk => by rcases hk with h | h <;> omega)
      have b04 := b0.turns T4 (by rintro (h | h) <;> omega)
      obtain ⟨⟨q0, q1, q2, q3⟩, -⟩ := N.box
      have Q3 := fun o => cell_alloc q3 o
      obtain ⟨⟨q03, q13, q23, q33⟩, f0, f1, f2, f3⟩ := id b3
      have HV4 : Hid (V4 = V3.setCell ⟨w.heap.size + 1, 3, none⟩ (.slice (some ⟨ga, 0, none⟩) (zs.length + 1) cap)) := hV4
      by_cases hlt : j < c
      · have hlt' : (j : Int) < c := by omega
        have hst' : innSt s (j + 1) = if E1 = 0 then (if cutE s p1 = 0 then .inr (cutT s p1, xs ++ [cutS s p1], zs ++ [k1]) else .inl (cutE s p1)) else .inl E1 := by
          rw [innSt, hst, hk1, hp1, hE1]
        by_cases z1 : E1 = 0
        · subst z1
          rw [if_pos rfl] at hst'
          have cC2 := fun V => refCut_any s p1 V HS.out
          obtain ⟨k2, hk2⟩ : ∃ x, x = cutS s p1 := ⟨_, rfl⟩
          obtain ⟨p2, hp2⟩ : ∃ x, x = cutT s p1 := ⟨_, rfl⟩
          obtain ⟨E2, hE2⟩ : ∃ x, x = cutE s p1 := ⟨_, rfl⟩
          rw [← hk2, ← hp2, ← hE2] at cC2 hst'
          have sk2 : k2.size ≤ s.size := by rw [hk2]; exact cutS_size s p1
          have HST : Hid (innSt s (j + 1) = if E2 = 0 then .inr (p2, xs ++ [k2], zs ++ [k1]) else .inl E2) := hst'
          have SX : Hid (∀ x ∈ xs ++ [k2], x.size ≤ s.size) := fun x hx => by
            rcases List.mem_append.1 hx with h | h
            · exact sx x h
            · obtain rfl : x = k2 := by simpa using h
              exact sk2
          obtain ⟨⟨s0, s1, s2, s3⟩, -⟩ := N4.box
          have S1 := fun o => cell_alloc s1 o
          by_cases z2 : E2 = 0
          · subst z2
            obtain ⟨gb, cap2, U3, hrun2, b5, N8, T8⟩ := N4.push1 k2 (by omega)
            obtain ⟨U4, hU4⟩ : ∃ V, V = U3.setCell ⟨w.heap.size + 1, 1, none⟩ (.slice (some ⟨gb, 0, none⟩) (xs.length + 1) cap2) := ⟨_, rfl⟩
            rw [← hU4] at N8 T8
            have NH : Hid (NodeAt U4 (w.heap.size + 1) (w.heap.size + 2) false (.slice (some ⟨gb, 0, none⟩) (xs.length + 1) cap2) (.slice none 0 0) (.slice (some ⟨ga, 0, none⟩) (zs.length + 1) cap) (xs ++ [k2]) [] (zs ++ [k1])) := N8
            have BH : Hid (Box4 U4 w.heap.size (.bool false) (.slice none 0 0) (.slice none 0 0) (.slice none 0 0) ∧ Below w.heap.size w U4) := ⟨b04.turns T8 (by rintro (h | h) <;> omega), Below.turns HB4 T8 (fun k hk => by rcases hk with h | h <;> omega)⟩
            obtain ⟨⟨q05, q15, q25, q35⟩, h0, h1, h2, h3⟩ := id b5
            have HU4 : Hid (U4 = U3.setCell ⟨w.heap.size + 1, 1, none⟩ (.slice (some ⟨gb, 0, none⟩) (xs.length + 1) cap2)) := hU4
            have t1 : True := trivial
            clear hk1 hp1 hE1 hk2 hp2 hE2 hst hst' l1 l2 hV4 hU4 N N4 N8 T4 T8 b3 b5 sx sk2 b0 b04 HB4
            go_wp2_with (first
              | (go_at_call 40; refine (cC1 _).mono ?_; rintro y w1 ⟨rfl, rfl⟩)
              | (at_builtin; have _t := t1; refine Lib.wpList_append_run _ rfl _ _ _ _ rfl _ _ rfl rfl _ _ hrun1 ?_; clear t1 _t)
              | (go_at_call 73; rw [← HV4.out]; refine (cC2 _).mono ?_; rintro y w1 ⟨rfl, rfl⟩)
              | (at_builtin; refine Lib.wpList_append_run _ rfl _ _ _ _ rfl _ _ rfl rfl _ _ hrun2 ?_))
            go_roundw
            case rel => exact ⟨j + 1, p2, .slice (some ⟨gb, 0, none⟩) (xs.length + 1) cap2, .slice (some ⟨ga, 0, none⟩) (zs.length + 1) cap, xs ++ [k2], zs ++ [k1], by omega, by go_num, rfl, by rw [HST.out]; simp, by rw [← HU4.out]; exact NH.out, SX.out, by rw [← HU4.out]; exact BH.out.1, by rw [← HU4.out]; exact BH.out.2⟩
            case measure => simp [intOf]; omega
          · have z2' : (E2 != 0) = true := by simpa using z2
            have HEE : Hid (innR s = .inl E2) := HE.out E2 (j + 1) (by rw [HST.out, if_neg z2]) (by omega)
            have t1 : True := trivial
            clear r0 r1 r2 r3 g0 g1 g2 g3
            obtain ⟨⟨r0, r1, r2, r3⟩, g0, g1, g2, g3⟩ := id b04
            clear hk1 hp1 hE1 hk2 hp2 hE2 hst hst' l1 l2 hV4 N N4 T4 b3 sx sk2 b0 b04 HB z2
            go_wp2_with (first
              | (go_at_call 40; refine (cC1 _).mono ?_; rintro y w1 ⟨rfl, rfl⟩)
              | (at_builtin; refine Lib.wpList_append_run _ rfl _ _ _ _ rfl _ _ rfl rfl _ _ hrun1 ?_)
              | (go_at_call 73; rw [← HV4.out]; refine (cC2 _).mono ?_; rintro y w1 ⟨rfl, rfl⟩))
            refine bodyPost_ret (v := .tuple #[.agg #[.bool false, .slice none 0 0, .slice none 0 0, .slice none 0 0], .int .i64 E2]) (by simp [results, Tryz.results58, go_sem, r0, r1, r2, r3]) rfl (HQ.out _ HEE.out _ _ (answers_none (below_put4 HB4 hle _ _ _ _)))
        · have z1' : (E1 != 0) = true := by simpa using z1
          have HEE : Hid (innR s = .inl E1) := HE.out E1 (j + 1) (by rw [hst', if_neg z1]) (by omega)
          clear hk1 hp1 hE1 hst hst' l1 l2 N sx b0 z1 N4 T4 b04 HB4 b3 hV4
          go_wp2_with (go_at_call 40; refine (cC1 _).mono ?_; rintro y w1 ⟨rfl, rfl⟩)
          refine bodyPost_ret (v := .tuple #[.agg #[.bool false, .slice none 0 0, .slice none 0 0, .slice none 0 0], .int .i64 E1]) (by simp [results, Tryz.results58, go_sem, r0, r1, r2, r3]) rfl (HQ.out _ HEE.out _ _ (answers_none (below_put4 HB hle _ _ _ _)))
      · obtain rfl : j = c := by omega
        have hfin : Hid (innR s = if E1 = 0 then (if p1 = s.size ∧ rightN false xs [] (zs ++ [k1]) true = true then .inr (false, xs, [], zs ++ [k1]) else .inl 4) else .inl E1) := by show _ = _; rw [hk1, hp1, hE1]; exact HF.out p xs zs hst
        have X1 : Hid (∀ x ∈ xs, x.size ≤ maxLen) := fun x hx => Nat.le_trans (sx x hx) HS.out
        obtain ⟨a, d, a', d', a'', d'', rfl, e2, e3, i1, i2, i3, j1, j2, j3⟩ := N4.rows X1.out (fun x hx => by cases hx)
        have e3' : a'' = some ⟨ga, 0, none⟩ ∧ d'' = cap := by simp at e3; exact ⟨e3.1.symm, e3.2.symm⟩
        obtain ⟨rfl, rfl⟩ := e3'
        have NH : Hid (NodeAt V4 (w.heap.size + 1) (w.heap.size + 2) false (.slice a xs.length d) (.slice none 0 0) (.slice (some ⟨ga, 0, none⟩) (zs.length + 1) d'') xs [] (zs ++ [k1])) := N4
        clear r0 r1 r2 r3 g0 g1 g2 g3
        obtain ⟨⟨r0, r1, r2, r3⟩, g0, g1, g2, g3⟩ := id b04
        obtain ⟨⟨s0, s1, s2, s3⟩, -⟩ := N4.box
        have cR : Calls Tryz.prog 59 #[.agg #[.bool false, .slice a xs.length d, .slice none 0 0, .slice (some ⟨ga, 0, none⟩) (zs.length + 1) d''], .bool true] V4 fun e w' => e = .returned (.bool (rightN false xs [] (zs ++ [k1]) true)) ∧ Below V4.heap.size V4 w' := refNodeRight_any false a none (some ⟨ga, 0, none⟩) d 0 d'' _ 0 _ xs [] (zs ++ [k1]) true V4 rfl rfl (by simp) i1 (isS_nil _) i3
        have raw : Box4 (V3.setCell ⟨w.heap.size + 1, 3, none⟩ (.slice (some ⟨ga, 0, none⟩) (zs.length + 1) d'')) (w.heap.size + 1) (.bool false) (.slice a xs.length d) (.slice none 0 0) (.slice (some ⟨ga, 0, none⟩) (zs.length + 1) d'') := by rw [← HV4.out]; exact N4.box
        have rawb : Box4 (V3.setCell ⟨w.heap.size + 1, 3, none⟩ (.slice (some ⟨ga, 0, none⟩) (zs.length + 1) d'')) w.heap.size (.bool false) (.slice none 0 0) (.slice none 0 0) (.slice none 0 0) := by rw [← HV4.out]; exact b04
        have rawB : Below w.heap.size w (V3.setCell ⟨w.heap.size + 1, 3, none⟩ (.slice (some ⟨ga, 0, none⟩) (zs.length + 1) d'')) := by rw [← HV4.out]; exact HB4
        obtain ⟨⟨x0, x1, x2, x3⟩, -⟩ := raw
        clear l1 l2 hst sx e2 e3 i1 i2 i3 hk1 hp1 hE1 hV4
        by_cases z1 : E1 = 0
        · subst z1
          by_cases hP : p1 = s.size
          · subst hP
            cases hr : rightN false xs [] (zs ++ [k1]) true with
            | true =>
              rw [hr] at cR hfin
              replace hfin : Hid (innR s = .inr (false, xs, [], zs ++ [k1])) := by show _ = _; rw [hfin.out, if_pos rfl, if_pos ⟨rfl, rfl⟩]
              clear hr
              have J1 : Hid (From (w.heap.size + 2) a) := j1
              have J3 : Hid (From (w.heap.size + 2) (some ⟨ga, 0, none⟩)) := j3
              clear j1 j2 j3 N N4 T4 b3 b0
              go_wp2_with (first
                | (go_at_call 40; refine (cC1 _).mono ?_; rintro y w1 ⟨rfl, rfl⟩)
                | (at_builtin; refine Lib.wpList_append_run _ rfl _ _ _ _ rfl _ _ rfl rfl _ _ hrun1 ?_)
                | (go_at_call 59; (try rw [← HV4.out]); refine cR.mono ?_; rintro y w1 ⟨rfl, hb⟩; have NH1 : Hid (NodeAt w1 (w.heap.size + 1) (w.heap.size + 2) false (.slice a xs.length d) (.slice none 0 0) (.slice (some ⟨ga, 0, none⟩) (zs.length + 1) d'') xs [] (zs ++ [k1])) := NH.out.below hb; replace b04 := b04.below hb; replace HB4 := Below.tr HB4 hb; clear r0 r1 r2 r3 g0 g1 g2 g3; obtain ⟨⟨r0, r1, r2, r3⟩, g0, g1, g2, g3⟩ := id b04; clear s0 s1 s2 s3; obtain ⟨⟨s0, s1, s2, s3⟩, -⟩ := NH1.out.box; clear hb))
              have N4 := (((NH1.out.other (k := w.heap.size) (by omega) (by omega) 0 (.bool false)).other (k := w.heap.size) (by omega) (by omega) 1 (.slice a xs.length d)).other (k := w.heap.size) (by omega) (by omega) 2 (.slice none 0 0)).other (k := w.heap.size) (by omega) (by omega) 3 (.slice (some ⟨ga, 0, none⟩) (zs.length + 1) d'')
              obtain ⟨a1, d1, a1', d1', a1'', d1'', e1, e2, e3, i1, i2, i3, -, -, -⟩ := N4.rows X1.out (fun x hx => by cases hx)
              cases e1
              have e3' : a1'' = some ⟨ga, 0, none⟩ ∧ d1'' = d'' := by simp at e3; exact ⟨e3.1.symm, e3.2.symm⟩
              obtain ⟨rfl, rfl⟩ := e3'
              exact bodyPost_ret (v := .tuple #[.agg #[.bool false, .slice a xs.length d, .slice none 0 0, .slice (some ⟨ga, 0, none⟩) (zs.length + 1) d1''], .int .i64 0]) (by simp [results, Tryz.results58, go_sem, r0, r1, r2, r3]) rfl (HQ2.out _ hfin.out _ _ ⟨_, a, d, 0, none, 0, zs.length + 1, some ⟨ga, 0, none⟩, d1'', rfl, rfl, rfl, by simp, i1, isS_nil _, i3, J1.out.mono (by omega), from_nil _, J3.out.mono (by omega), below_put4 HB4 hle _ _ _ _⟩)
            | false =>
              rw [hr] at cR hfin
              replace hfin : Hid (innR s = .inl 4) := by show _ = _; rw [hfin.out, if_pos rfl, if_neg (by simp)]
              clear hr j1 j2 j3 N N4 T4 b3 b0
              go_wp2_with (first
                | (go_at_call 40; refine (cC1 _).mono ?_; rintro y w1 ⟨rfl, rfl⟩)
                | (at_builtin; refine Lib.wpList_append_run _ rfl _ _ _ _ rfl _ _ rfl rfl _ _ hrun1 ?_)
                | (go_at_call 59; (try rw [← HV4.out]); refine cR.mono ?_; rintro y w1 ⟨rfl, hb⟩; replace b04 := b04.below hb; replace HB4 := Below.tr HB4 hb; clear r0 r1 r2 r3 g0 g1 g2 g3; obtain ⟨⟨r0, r1, r2, r3⟩, g0, g1, g2, g3⟩ := id b04; clear hb))
              refine bodyPost_ret (v := .tuple #[.agg #[.bool false, .slice none 0 0, .slice none 0 0, .slice none 0 0], .int .i64 4]) (by simp [results, Tryz.results58, go_sem, r0, r1, r2, r3]) rfl (HQ.out _ hfin.out _ _ (answers_none (below_put4 HB4 hle _ _ _ _)))
          · have hP' : (p1 != (s.size : Int)) = true := by simpa using hP
            replace hfin : Hid (innR s = .inl 4) := by show _ = _; rw [hfin.out, if_pos rfl, if_neg (fun h => hP h.1)]
            clear r0 r1 r2 r3 g0 g1 g2 g3
            obtain ⟨⟨r0, r1, r2, r3⟩, g0, g1, g2, g3⟩ := id rawb
            clear j1 j2 j3 N N4 T4 b3 b0 cR hP
            go_wp2_with (first
              | (go_at_call 40; refine (cC1 _).mono ?_; rintro y w1 ⟨rfl, rfl⟩)
              | (at_builtin; refine Lib.wpList_append_run _ rfl _ _ _ _ rfl _ _ rfl rfl _ _ hrun1 ?_))
            refine bodyPost_ret (v := .tuple #[.agg #[.bool false, .slice none 0 0, .slice none 0 0, .slice none 0 0], .int .i64 4]) (by simp [results, Tryz.results58, go_sem, r0, r1, r2, r3]) rfl (HQ.out _ hfin.out _ _ (answers_none (below_put4 rawB hle _ _ _ _)))
        · have z1' : (E1 != 0) = true := by simpa using z1
          replace hfin : Hid (innR s = .inl E1) := by show _ = _; rw [hfin.out, if_neg z1]
          clear r0 r1 r2 r3 g0 g1 g2 g3
          obtain ⟨⟨r0, r1, r2, r3⟩, g0, g1, g2, g3⟩ := id rawb
          clear j1 j2 j3 N N4 T4 b3 b0 cR z1
          go_wp2_with (first
            | (go_at_call 40; refine (cC1 _).mono ?_; rintro y w1 ⟨rfl, rfl⟩)
            | (at_builtin; refine Lib.wpList_append_run _ rfl _ _ _ _ rfl _ _ rfl rfl _ _ hrun1 ?_))
          refine bodyPost_ret (v := .tuple #[.agg #[.bool false, .slice none 0 0, .slice none 0 0, .slice none 0 0], .int .i64 E1]) (by simp [results, Tryz.results58, go_sem, r0, r1, r2, r3]) rfl (HQ.out _ hfin.out _ _ (answers_none (below_put4 rawB hle _ _ _ _)))
  · have hb' : (getE s 0 1 != 0) = true := by simpa using h0
    have eR : getR s 0 1 = 0 := by unfold getR; rw [if_neg h0]
    have HEE : Hid (innR s = .inl (getE s 0 1)) := by show _ = _; unfold innR; rw [if_neg h0]
    rw [eR] at cG
    generalize getE s 0 1 = E1 at *
    generalize getT s 0 1 = T1 at *
    obtain ⟨⟨r0, r1, r2, r3⟩, g0, g1, g2, g3⟩ := id b0
    clear eR h0 N0 bn hsz
    go_enter Tryz.func58, Tryz.ntmps58
    go_wp2_with (go_at_call 40; rw [← hW]; refine (cG _).mono ?_; rintro y w1 ⟨rfl, rfl⟩)
    rw [← hW]
    clear hW cG
    go_loopw [10] (fun v wr => v = .int .i64 0 ∧ wr = W) (fun _ _ => 0)
    case atStart => exact ⟨rfl, rfl⟩
    case round =>
      obtain ⟨rfl, hwr⟩ := hrel
      subst hwr
      go_wp2
      refine bodyPost_ret (v := .tuple #[.agg #[.bool false, .slice none 0 0, .slice none 0 0, .slice none 0 0], .int .i64 E1]) (by simp [results, Tryz.results58, go_sem, r0, r1, r2, r3]) rfl (HQ.out _ HEE.out _ _ (answers_none (below_put4 hB0 hle _ _ _ _)))

set_option maxHeartbeats 1000000 in
theorem refGetKind_any (kind : Int) (s : ByteArray) (w : World) (h1 : kind ≠ 1) (h2 : kind ≠ 2) :
    Calls Tryz.prog 58 #[.int .i64 kind, .string s] w fun x w' => Answers w x w' false [] [] [] 81 := by
  have k1 : (kind != 1) = true := by simpa using h1
  have k2 : (kind != 2) = true := by simpa using h2
  have b0 := box4_new w (.bool false) (.slice none 0 0) (.slice none 0 0) (.slice none 0 0) 76 rfl
  have hB0 : Below w.heap.size w (w.alloc (.cells #[.bool false, .slice none 0 0, .slice none 0 0, .slice none 0 0] 76)) := (Below.refl _ _).alloc (Nat.le_refl _) _
  obtain ⟨⟨z0, z1, z2, z3⟩, y0, y1, y2, y3⟩ := id b0
  go_enter Tryz.func58, Tryz.ntmps58
  go_wp2
  exact bodyPost_ret (v := .tuple #[.agg #[.bool false, .slice none 0 0, .slice none 0 0, .slice none 0 0], .int .i64 81]) (by simp [results, Tryz.results58, go_sem, z0, z1, z2, z3]) rfl (answers_none hB0)

/-- THE DOCUMENT'S GET, at all kinds and texts. -/
theorem refNodeGet_any (kind : Int) (s : ByteArray) (w : World) (hs : s.size ≤ maxLen) :
    Calls Tryz.prog 58 #[.int .i64 kind, .string s] w fun x w' => Answers w x w' (gN kind s).1 (gN kind s).2.1 (gN kind s).2.2.1 (gN kind s).2.2.2 (gE kind s) := by
  by_cases h1 : kind = 1
  · subst h1; exact refGetLeaf_any s w hs
  · by_cases h2 : kind = 2
    · subst h2; exact refGetInner_any s w hs
    · have hR : nodeR kind s = .inl 81 := by unfold nodeR; rw [if_neg h1, if_neg h2]
      obtain ⟨g1, g2⟩ := g_inl hR
      rw [g1, g2]
      exact refGetKind_any kind s w h1 h2

end Go.Proofs.YtaecfbfcjaailaaGreat

namespace Go.Proofs.YtaecfbfcjaailaaGreat.Plain
open Go.RowKit

/-! Eight places as a byte -/

def bn (b : Bool) : Nat := if b then 1 else 0

theorem bn_lt (b : Bool) : bn b < 2 := by cases b <;> decide

def atB (l : List Bool) (i : Nat) : Bool := l[i]?.getD false

theorem atB_past {l : List Bool} {i : Nat} (h : l.length ≤ i) : atB l i = false := by
  unfold atB; rw [List.getElem?_eq_none h]; rfl

theorem atB_some {l : List Bool} {i : Nat} {x : Bool} (h : l[i]? = some x) : atB l i = x := by unfold atB; rw [h]; rfl

/-- The first k of the eight places from a place on, the lowest first. -/
def lowB (l : List Bool) (p : Nat) : Nat → Nat
  | 0 => 0
  | k + 1 => lowB l p k + 2 ^ k * bn (atB l (p + k))

theorem lowB_lt (l : List Bool) (p k : Nat) : lowB l p k < 2 ^ k := by
  induction k with
  | zero => exact Nat.zero_lt_one
  | succ k ih =>
    rw [lowB, Nat.pow_succ]
    have := bn_lt (atB l (p + k))
    have h2 : 2 ^ k * bn (atB l (p + k)) ≤ 2 ^ k * 1 := Nat.mul_le_mul_left _ (by omega)
    omega

theorem lowB_bit (l : List Bool) (p k j : Nat) (h : j < k) : lowB l p k / 2 ^ j % 2 = bn (atB l (p + j)) := by
  induction k with
  | zero => omega
  | succ k ih =>
    rw [lowB]
    by_cases e : j = k
    · subst e
      rw [Nat.add_mul_div_left _ _ (Nat.two_pow_pos j), Nat.div_eq_of_lt (lowB_lt l p j), Nat.zero_add]
      exact Nat.mod_eq_of_lt (bn_lt _)
    · have hj : j < k := by omega
      have e2 : 2 ^ k = 2 ^ j * (2 * 2 ^ (k - j - 1)) := by
        rw [← Nat.mul_assoc, ← Nat.pow_succ, ← Nat.pow_add]; congr 1; omega
      rw [e2, Nat.mul_assoc, Nat.add_mul_div_left _ _ (Nat.two_pow_pos j), Nat.mul_assoc, Nat.add_mul_mod_self_left]
      exact ih hj

def byteB (l : List Bool) (i : Nat) : UInt8 := UInt8.ofNat (lowB l (8 * i) 8)

theorem byteB_nat (l : List Bool) (i : Nat) : (byteB l i).toNat = lowB l (8 * i) 8 := by
  unfold byteB
  have := lowB_lt l (8 * i) 8
  rw [UInt8.toNat_ofNat']
  omega

/-! Packed -/

def sizeB (n : Nat) : Nat := (n + 7) / 8
def packL (l : List Bool) : List UInt8 := (List.range (sizeB l.length)).map (byteB l)
def packS (l : List Bool) : ByteArray := ⟨(packL l).toArray⟩

theorem packS_size (l : List Bool) : (packS l).size = sizeB l.length := by
  show (packL l).length = _
  simp [packL]

/-- A place of bytes. -/
def bitAt (s : ByteArray) (i : Nat) : Bool := decide ((s.data.toList[i / 8]?.getD 0).toNat / 2 ^ (i % 8) % 2 = 1)

theorem bitAt_past {s : ByteArray} {i : Nat} (h : 8 * s.size ≤ i) : bitAt s i = false := by
  unfold bitAt
  rw [List.getElem?_eq_none (by rw [size_list]; omega)]
  simp

theorem bitAt_pack (l : List Bool) (i : Nat) : bitAt (packS l) i = atB l i := by
  by_cases h : i / 8 < sizeB l.length
  · unfold bitAt
    have e : (packS l).data.toList[i / 8]? = some (byteB l (i / 8)) := by
      show (packL l)[i / 8]? = _
      unfold packL
      rw [List.getElem?_map, List.getElem?_range h]; rfl
    rw [e, Option.getD_some, byteB_nat, lowB_bit _ _ _ _ (Nat.mod_lt _ (by decide)), show 8 * (i / 8) + i % 8 = i by omega]
    cases atB l i <;> rfl
  · have h1 : l.length ≤ i := by unfold sizeB at h; omega
    rw [atB_past h1, bitAt_past]
    rw [packS_size]; unfold sizeB at h ⊢; omega

def unpackL (s : ByteArray) (n : Nat) : List Bool := (List.range n).map (bitAt s)

theorem unpackL_length (s : ByteArray) (n : Nat) : (unpackL s n).length = n := by simp [unpackL]

theorem unpackL_get (s : ByteArray) (n i : Nat) (h : i < n) : (unpackL s n)[i]? = some (bitAt s i) := by
  unfold unpackL; rw [List.getElem?_map, List.getElem?_range h]; rfl

theorem unpackL_at (s : ByteArray) (n i : Nat) : atB (unpackL s n) i = (decide (i < n) && bitAt s i) := by
  by_cases h : i < n
  · rw [atB_some (unpackL_get s n i h), decide_eq_true h, Bool.true_and]
  · rw [atB_past (by rw [unpackL_length]; omega), decide_eq_false h, Bool.false_and]

/-- WHAT IS PACKED IS UNPACKED AGAIN. -/
theorem unpack_pack (l : List Bool) : unpackL (packS l) l.length = l := by
  apply List.ext_getElem?
  intro i
  by_cases h : i < l.length
  · rw [unpackL_get _ _ _ h, bitAt_pack]
    unfold atB
    rw [List.getElem?_eq_getElem h]; rfl
  · rw [List.getElem?_eq_none (by rw [unpackL_length]; omega), List.getElem?_eq_none (by omega)]

/-! A byte is its bits -/

theorem byte_bits {a b : Nat} (n : Nat) (ha : a < 2 ^ n) (hb : b < 2 ^ n) (h : ∀ k, k < n → a / 2 ^ k % 2 = b / 2 ^ k % 2) : a = b := by
  induction n generalizing a b with
  | zero => omega
  | succ n ih =>
    have h0 := h 0 (by omega)
    simp at h0
    have hp : 2 ^ (n + 1) = 2 * 2 ^ n := by rw [Nat.pow_succ]; omega
    have hd : a / 2 = b / 2 := by
      apply ih (by omega) (by omega)
      intro k hk
      have := h (k + 1) (by omega)
      rwa [Nat.pow_succ, Nat.mul_comm, ← Nat.div_div_eq_div_mul, ← Nat.div_div_eq_div_mul] at this
    omega

theorem bitAt_byte (s : ByteArray) (j k : Nat) (hk : k < 8) : bitAt s (8 * j + k) = decide ((s.data.toList[j]?.getD 0).toNat / 2 ^ k % 2 = 1) := by
  unfold bitAt
  rw [show (8 * j + k) / 8 = j by omega, show (8 * j + k) % 8 = k by omega]

theorem bits_ext {s t : ByteArray} (hz : s.size = t.size) (h : ∀ i, i < 8 * s.size → bitAt s i = bitAt t i) : s = t := by
  apply bytes_ext
  apply List.ext_getElem?
  intro j
  by_cases hj : j < s.size
  · rw [List.getElem?_eq_getElem (by rw [size_list]; omega), List.getElem?_eq_getElem (by rw [size_list]; omega), Option.some_inj]
    apply UInt8.toNat_inj.1
    apply byte_bits 8 (UInt8.toNat_lt _) (UInt8.toNat_lt _)
    intro k hk
    have hb := h (8 * j + k) (by omega)
    rw [bitAt_byte _ _ _ hk, bitAt_byte _ _ _ hk, List.getElem?_eq_getElem (by rw [size_list]; omega), List.getElem?_eq_getElem (by rw [size_list]; omega), Option.getD_some, Option.getD_some, decide_eq_decide] at hb
    have m1 := Nat.mod_lt ((s.data.toList[j]'(by rw [size_list]; omega)).toNat / 2 ^ k) (by decide : 2 > 0)
    have m2 := Nat.mod_lt ((t.data.toList[j]'(by rw [size_list]; omega)).toNat / 2 ^ k) (by decide : 2 > 0)
    omega
  · rw [List.getElem?_eq_none (by rw [size_list]; omega), List.getElem?_eq_none (by rw [size_list]; omega)]

/-- Bytes are the packed places just where there are as many as the places need, and no bit beyond them is 1. -/
theorem pack_unpack (s : ByteArray) (n : Nat) : packS (unpackL s n) = s ↔ s.size = sizeB n ∧ ∀ i, n ≤ i → bitAt s i = false := by
  constructor
  · intro h
    refine ⟨by rw [← h, packS_size, unpackL_length], fun i hi => ?_⟩
    rw [← h, bitAt_pack, atB_past (by rw [unpackL_length]; omega)]
  · rintro ⟨hz, hb⟩
    apply bits_ext
    · rw [packS_size, unpackL_length, hz]
    · intro i _
      rw [bitAt_pack, unpackL_at]
      by_cases h : i < n
      · rw [decide_eq_true h, Bool.true_and]
      · rw [hb i (by omega), Bool.and_false]

/-- What Unpack hands back. -/
def unE (s : ByteArray) (n : Int) : Int :=
  if 0 ≤ n ∧ n ≤ 2048 then (if (s.size : Int) < sizeB n.toNat then 3 else if packS (unpackL s n.toNat) = s then 0 else 4) else 1
def unL (s : ByteArray) (n : Int) : List Bool := if unE s n = 0 then unpackL s n.toNat else []

/-! Several rows -/

def longest : List (List Bool) → Nat
  | [] => 0
  | l :: ls => max l.length (longest ls)

theorem longest_le {ls : List (List Bool)} {l : List Bool} (h : l ∈ ls) : l.length ≤ longest ls := by
  induction ls with
  | nil => cases h
  | cons x xs ih =>
    rw [longest]
    rcases List.mem_cons.1 h with rfl | h
    · omega
    · have := ih h; omega

theorem longest_append (xs ys : List (List Bool)) : longest (xs ++ ys) = max (longest xs) (longest ys) := by
  induction xs with
  | nil => simp [longest]
  | cons x xs ih => rw [List.cons_append, longest, longest, ih]; omega

/-- How many rows have yes at a place. -/
def howB (ls : List (List Bool)) (i : Nat) : Nat := ls.countP (fun l => atB l i)

theorem howB_all {ls : List (List Bool)} {i : Nat} : howB ls i = ls.length ↔ ∀ l ∈ ls, atB l i = true := List.countP_eq_length

theorem howB_none {ls : List (List Bool)} {i : Nat} : howB ls i = 0 ↔ ∀ l ∈ ls, ¬ atB l i = true := by
  unfold howB; rw [List.countP_eq_zero]

/-- How many of the first n places all rows have. -/
def countN (ls : List (List Bool)) : Nat → Nat
  | 0 => 0
  | n + 1 => countN ls n + bn (decide (howB ls n = ls.length))
def countB (ls : List (List Bool)) : Nat := countN ls (longest ls)

theorem countN_le (ls : List (List Bool)) (n : Nat) : countN ls n ≤ n := by
  induction n with
  | zero => exact Nat.le_refl _
  | succ n ih => rw [countN]; have := bn_lt (decide (howB ls n = ls.length)); omega

/-- Places beyond one of the rows count nothing. -/
theorem countN_past {ls : List (List Bool)} {l : List Bool} (hl : l ∈ ls) (n : Nat) (h : l.length ≤ n) : countN ls n = countN ls l.length := by
  induction n with
  | zero => congr 1; omega
  | succ n ih =>
    by_cases e : l.length = n + 1
    · rw [e]
    · rw [countN, ih (by omega), decide_eq_false, bn]
      · rfl
      · rw [howB_all]
        intro hh
        have := hh l hl
        rw [atB_past (by omega)] at this
        cases this

/-- The first of the places from i on, of n of them, at which no row has yes. -/
def firstN (ls : List (List Bool)) (i : Nat) : Nat → Int
  | 0 => -1
  | n + 1 => if howB ls i = 0 then i else firstN ls (i + 1) n
def firstB (fr : Int) (ls : List (List Bool)) : Int := firstN ls fr.toNat (longest ls - fr.toNat)

theorem firstN_spec (ls : List (List Bool)) (i n : Nat) :
    (firstN ls i n = -1 ∧ ∀ j, i ≤ j → j < i + n → howB ls j ≠ 0) ∨
    (∃ p : Nat, firstN ls i n = p ∧ i ≤ p ∧ p < i + n ∧ howB ls p = 0 ∧ ∀ j, i ≤ j → j < p → howB ls j ≠ 0) := by
  induction n generalizing i with
  | zero => exact .inl ⟨rfl, fun j h1 h2 => by omega⟩
  | succ n ih =>
    rw [firstN]
    by_cases h : howB ls i = 0
    · rw [if_pos h]
      exact .inr ⟨i, rfl, Nat.le_refl _, by omega, h, fun j h1 h2 => by omega⟩
    · rw [if_neg h]
      rcases ih (i + 1) with ⟨e, hn⟩ | ⟨p, e, h1, h2, h3, h4⟩
      · refine .inl ⟨e, fun j a b => ?_⟩
        by_cases hj : j = i
        · subst hj; exact h
        · exact hn j (by omega) (by omega)
      · refine .inr ⟨p, e, by omega, by omega, h3, fun j a b => ?_⟩
        by_cases hj : j = i
        · subst hj; exact h
        · exact h4 j (by omega) b

/-- The first free place, told by what it is. -/
theorem firstB_spec (fr : Int) (ls : List (List Bool)) :
    (firstB fr ls = -1 ∧ ∀ j : Nat, fr ≤ j → j < longest ls → howB ls j ≠ 0) ∨
    (∃ p : Nat, firstB fr ls = p ∧ fr ≤ p ∧ p < longest ls ∧ howB ls p = 0 ∧ ∀ j : Nat, fr ≤ j → j < p → howB ls j ≠ 0) := by
  unfold firstB
  rcases firstN_spec ls fr.toNat (longest ls - fr.toNat) with ⟨e, hn⟩ | ⟨p, e, h1, h2, h3, h4⟩
  · exact .inl ⟨e, fun j a b => hn j (by omega) (by omega)⟩
  · exact .inr ⟨p, e, by omega, by omega, h3, fun j a b => h4 j (by omega) b⟩

theorem firstB_none {fr : Int} {ls : List (List Bool)} (h : ∀ j : Nat, fr ≤ j → j < longest ls → howB ls j ≠ 0) : firstB fr ls = -1 := by
  rcases firstB_spec fr ls with ⟨e, _⟩ | ⟨p, _, h1, h2, h3, _⟩
  · exact e
  · exact absurd h3 (h p h1 h2)

theorem firstB_is {fr : Int} {ls : List (List Bool)} {p : Nat} (h1 : fr ≤ p) (h2 : p < longest ls) (h3 : howB ls p = 0) (h4 : ∀ j : Nat, fr ≤ j → j < p → howB ls j ≠ 0) : firstB fr ls = p := by
  rcases firstB_spec fr ls with ⟨_, hn⟩ | ⟨q, e, g1, g2, g3, g4⟩
  · exact absurd h3 (hn p h1 h2)
  · rw [e]
    rcases Nat.lt_trichotomy p q with h | h | h
    · exact absurd h3 (g4 p h1 h)
    · rw [h]
    · exact absurd g3 (h4 q g1 h)

/-- The order of the rows is nothing to it. -/
theorem firstB_swap (fr : Int) (a b : List Bool) : firstB fr [a, b] = firstB fr [b, a] := by
  have hl : longest [a, b] = longest [b, a] := by simp [longest]; omega
  have hh : ∀ j, howB [a, b] j = howB [b, a] j := by
    intro j; unfold howB; simp [List.countP_cons]; omega
  rcases firstB_spec fr [b, a] with ⟨e, hn⟩ | ⟨p, e, h1, h2, h3, h4⟩
  · rw [e]; exact firstB_none fun j x y => by rw [hh]; exact hn j x (by omega)
  · rw [e]; exact firstB_is h1 (by omega) (by rw [hh]; exact h3) fun j x y => by rw [hh]; exact h4 j x y

/-! Places set -/

def placesOk (l : List Bool) (ps : List Int) : Bool := ps.all fun p => decide (0 ≤ p) && decide (p < l.length)
/-- The row with these places set, one behind the other. -/
def setB (l : List Bool) (is : Bool) : List Int → List Bool
  | [] => l
  | p :: ps => setB (l.set p.toNat is) is ps
def withE (l : List Bool) (ps : List Int) : Int := if placesOk l ps then 0 else 1
def withL (l : List Bool) (is : Bool) (ps : List Int) : List Bool := if placesOk l ps then setB l is ps else []

theorem setB_length (l : List Bool) (is : Bool) (ps : List Int) : (setB l is ps).length = l.length := by
  induction ps generalizing l with
  | nil => rfl
  | cons p ps ih => rw [setB, ih, List.length_set]

theorem setB_append (l : List Bool) (is : Bool) (ps qs : List Int) : setB l is (ps ++ qs) = setB (setB l is ps) is qs := by
  induction ps generalizing l with
  | nil => rfl
  | cons p ps ih => rw [List.cons_append, setB, setB, ih]

/-- What stands at a place behind it. -/
theorem setB_get (l : List Bool) (is : Bool) (ps : List Int) (h : placesOk l ps = true) (i : Nat) (hi : i < l.length) :
    (setB l is ps)[i]? = some (if (i : Int) ∈ ps then is else l[i]) := by
  induction ps generalizing l with
  | nil => simp [setB, List.getElem?_eq_getElem hi]
  | cons p ps ih =>
    simp only [placesOk, List.all_cons, Bool.and_eq_true, decide_eq_true_eq] at h
    obtain ⟨⟨h0, h1⟩, h2⟩ := h
    have h2' : placesOk (l.set p.toNat is) ps = true := by
      unfold placesOk; rw [List.length_set]; exact h2
    rw [setB, ih _ h2' (by rw [List.length_set]; exact hi), Option.some_inj, List.getElem_set]
    by_cases hm : (i : Int) ∈ ps
    · rw [if_pos hm, if_pos (List.mem_cons_of_mem _ hm)]
    · rw [if_neg hm]
      by_cases e : p.toNat = i
      · rw [if_pos e, if_pos]
        exact List.mem_cons.2 (.inl (by omega))
      · rw [if_neg e, if_neg]
        intro hh
        rcases List.mem_cons.1 hh with hh | hh
        · omega
        · exact hm hh

/-! One row counted -/

theorem howB_one (l : List Bool) (i : Nat) : (howB [l] i = 1) ↔ atB l i = true := by
  unfold howB; simp

theorem countN_one (l : List Bool) (n : Nat) : countN [l] n = (l.take n).countP id := by
  induction n with
  | zero => simp [countN]
  | succ n ih =>
    rw [countN, ih]
    by_cases h : n < l.length
    · rw [List.take_add_one, List.getElem?_eq_getElem h, List.countP_append]
      congr 1
      have : decide (howB [l] n = [l].length) = l[n] := by
        have e := howB_one l n
        rw [atB_some (List.getElem?_eq_getElem h)] at e
        show decide (howB [l] n = 1) = _
        rw [Bool.eq_iff_iff, decide_eq_true_eq, e]
      rw [this]
      cases l[n] <;> rfl
    · rw [List.take_of_length_le (by omega), List.take_of_length_le (by omega), decide_eq_false, bn]
      · rfl
      · show ¬ howB [l] n = 1
        rw [howB_one, atB_past (by omega)]
        exact Bool.false_ne_true

theorem countB_one (l : List Bool) : countB [l] = l.countP id := by
  unfold countB
  rw [show longest [l] = l.length by simp [longest], countN_one, List.take_length]

theorem count_set (l : List Bool) (i : Nat) (h : i < l.length) : (l.set i true).countP id = (l.set i false).countP id + 1 := by
  induction l generalizing i with
  | nil => simp at h
  | cons x xs ih =>
    cases i with
    | zero => simp
    | succ i =>
      simp only [List.set_cons_succ, List.countP_cons]
      rw [ih i (by simpa using h)]
      omega

/-- A row beside itself with less: what that has. -/
theorem countB_less {l m : List Bool} (hl : l.length = m.length) (h : ∀ i, atB m i = true → atB l i = true) : countB [l, m] = countB [m] := by
  unfold countB
  have e1 : longest [l, m] = m.length := by simp [longest]; omega
  have e2 : longest [m] = m.length := by simp [longest]
  rw [e1, e2]
  have : ∀ n, countN [l, m] n = countN [m] n := by
    intro n
    induction n with
    | zero => rfl
    | succ n ih =>
      rw [countN, countN, ih]
      congr 2
      rw [decide_eq_decide, howB_all, howB_all]
      constructor
      · intro hh x hx; exact hh x (by simp at hx ⊢; exact .inr hx)
      · intro hh x hx
        have hm := hh m (by simp)
        simp at hx
        rcases hx with rfl | rfl
        · exact h n hm
        · exact hm
  exact this _

/-- The first free place of one row. -/
theorem firstB_one (l : List Bool) : (firstB 0 [l] = -1 ∧ ∀ i, i < l.length → atB l i = true) ∨ ∃ p : Nat, firstB 0 [l] = p ∧ p < l.length ∧ atB l p = false ∧ ∀ i, i < p → atB l i = true := by
  have hL : longest [l] = l.length := by simp [longest]
  have h0 : ∀ j, howB [l] j ≠ 0 ↔ atB l j = true := by
    intro j
    unfold howB
    cases h : atB l j <;> simp [h]
  rcases firstB_spec 0 [l] with ⟨e, hn⟩ | ⟨p, e, h1, h2, h3, h4⟩
  · exact .inl ⟨e, fun i hi => (h0 i).1 (hn i (by omega) (by omega))⟩
  · refine .inr ⟨p, e, by omega, ?_, fun i hi => (h0 i).1 (h4 i (by omega) hi)⟩
    cases h : atB l p with
    | false => rfl
    | true => exact absurd h3 ((h0 p).2 h)

end Go.Proofs.YtaecfbfcjaailaaGreat.Plain

namespace Go.Proofs.YtaecfbfcjaailaaGreat
open Go.RowKit Plain Go.ChangeShapes Go.WideShapes
set_option linter.unusedVariables false

/-! Slices of bools -/

def IsB (w : World) (a : Option Addr) (c : Nat) (l : List Bool) : Prop :=
  l.length ≤ c ∧ c ≤ maxLen ∧ ∀ j x, l[j]? = some x → ∃ b o, a = some ⟨b, o, none⟩ ∧ b < w.heap.size ∧ w.cell? ⟨b, o + j, none⟩ = some (.bool x)

theorem IsB_nil (w : World) : IsB w none 0 [] := ⟨Nat.le_refl _, Nat.zero_le _, fun j x hx => by simp at hx⟩

theorem IsB.below {w w' : World} {a : Option Addr} {c : Nat} {l : List Bool} (h : IsB w a c l) (hb : Below w.heap.size w w') : IsB w' a c l := by
  refine ⟨h.1, h.2.1, fun j x hx => ?_⟩
  obtain ⟨b, o, ha, hlt, hc⟩ := h.2.2 j x hx
  exact ⟨b, o, ha, Nat.lt_of_lt_of_le hlt hb.size, by rw [hb.cell (p := ⟨b, o + j, none⟩) hlt]; exact hc⟩

theorem IsB.take {w : World} {a : Option Addr} {c : Nat} {l : List Bool} (h : IsB w a c l) (n : Nat) : IsB w a c (l.take n) := by
  refine ⟨by rw [List.length_take]; have := h.1; omega, h.2.1, fun j x hx => h.2.2 j x ?_⟩
  rw [List.getElem?_take] at hx
  split at hx
  · exact hx
  · cases hx

theorem IsB.some {w : World} {a : Option Addr} {c : Nat} {l : List Bool} (h : IsB w a c l) (h0 : 0 < l.length) : ∃ b o, a = .some ⟨b, o, none⟩ ∧ b < w.heap.size := by
  obtain ⟨b, o, ha, hl, _⟩ := h.2.2 0 l[0] (List.getElem?_eq_getElem h0)
  exact ⟨b, o, ha, hl⟩

/-- One place of a row whose address is known. -/
theorem IsB.at {w : World} {b o c : Nat} {l : List Bool} (h : IsB w (.some ⟨b, o, none⟩) c l) {j : Nat} {x : Bool} (hx : l[j]? = .some x) : w.cell? ⟨b, o + j, none⟩ = .some (.bool x) := by
  obtain ⟨b', o', he, _, hc⟩ := h.2.2 j x hx
  cases he
  exact hc

theorem open_B {H : Type} {enc : TypeId × Value → H} {w : World} {fuel : Nat} {v : Value} {x : DataW H × List MemPlace}
    (h : DataW.trod enc Tryz.prog w 0 (fun _ => true) true fuel 22 [v] = some x) : ∃ a c l, v = .slice a l.length c ∧ IsB w a c l := by
  rcases Deep.open_bools Tryz.underlying22 Tryz.underlying4 (by kernel_rfl) h with ⟨hcs, _⟩ | ⟨a, n, c, B, hcs, _, hl, hm, _, hcell⟩
  · simp at hcs
    exact ⟨none, 0, [], hcs, Nat.le_refl _, Nat.zero_le _, fun j m hj => by simp at hj⟩
  · simp at hcs
    refine ⟨some a, c, (List.range n).map B, by simpa using hcs, by simpa using hl, hm, fun j y hy => ?_⟩
    have hj : j < n := by simpa using (List.getElem?_eq_some_iff.1 hy).1
    rw [List.getElem?_map, List.getElem?_range hj] at hy
    simp at hy
    subst hy
    obtain ⟨b, o, rfl, hb⟩ := spot_none (hcell 0 (by omega))
    have hc := hcell j (by omega)
    rw [at_add] at hc
    exact ⟨b, o, rfl, hb, hc⟩

set_option maxRecDepth 20000 in
theorem open_places {H : Type} {enc : TypeId × Value → H} {w : World} {r : Reach} {b0 : Nat} {v : Value} {d : DataW H} {p : List MemPlace}
    (hv : Value.okWide Tryz.prog w r b0 22 v) (h : DataW.Trod enc Tryz.prog w 0 (fun _ => true) true 22 v d p) :
    ∃ a c l, v = .slice a l.length c ∧ IsB w a c l := by
  obtain ⟨a, len, cap, rfl⟩ := okWide_slice Tryz.underlying22 hv
  obtain ⟨fuel, hf⟩ := h
  exact open_B (by simpa [Value.cells] using hf)

/-! A row of bools of the call's own -/

def RowT (w : World) (g cap : Nat) (l : List Bool) : Prop :=
  ∃ cur : Array Value, w.heap[g]? = some (.cells cur 4 (0, 0)) ∧ cur.toList.take l.length = l.map Value.bool ∧ l.length ≤ cap ∧ cap ≤ maxLen ∧ cur.size = cap

theorem RowT.lt {w : World} {g cap : Nat} {l : List Bool} (h : RowT w g cap l) : g < w.heap.size := by
  obtain ⟨cur, hg, _⟩ := h
  exact (Array.getElem?_eq_some_iff.1 hg).1

theorem RowT.below {w w' : World} {g cap : Nat} {l : List Bool} (h : RowT w g cap l) (hb : Below w.heap.size w w') : RowT w' g cap l := by
  have hl := h.lt
  obtain ⟨cur, hg, hr⟩ := h
  exact ⟨cur, by rw [hb.block g hl]; exact hg, hr⟩

theorem RowT.cell {w : World} {g cap : Nat} {l : List Bool} (h : RowT w g cap l) {j : Nat} {x : Bool} (hx : l[j]? = some x) : w.cell? ⟨g, j, none⟩ = some (.bool x) ∧ w.frozen? ⟨g, j, none⟩ = false := by
  obtain ⟨cur, hg, ht, hl, _, hs⟩ := h
  have hj := (List.getElem?_eq_some_iff.1 hx).1
  have hc : cur[j]? = some (.bool x) := by
    rw [← Array.getElem?_toList]
    have : (cur.toList.take l.length)[j]? = some (.bool x) := by rw [ht, List.getElem?_map, hx]; rfl
    rwa [List.getElem?_take_of_lt hj] at this
  exact ⟨by rw [Joins.cell_of_block hg]; exact hc, Joins.unfrozen_of_block hg j⟩

theorem RowT.set {w : World} {g cap : Nat} {l : List Bool} (h : RowT w g cap l) (j : Nat) (x : Bool) : RowT (w.setCell ⟨g, j, none⟩ (.bool x)) g cap (l.set j x) := by
  obtain ⟨cur, hg, ht, hl, hm, hs⟩ := h
  refine ⟨_, Joins.block_setCell hg _, ?_, by rw [List.length_set]; exact hl, hm, by rw [Array.size_setIfInBounds]; exact hs⟩
  rw [List.length_set, Array.toList_setIfInBounds, List.take_set, ht, List.map_set]

theorem RowT.isB {w : World} {g cap : Nat} {l : List Bool} (h : RowT w g cap l) : IsB w (some ⟨g, 0, none⟩) cap l := by
  have hl := h.lt
  have hc := h
  obtain ⟨cur, hg, ht, h1, h2, hs⟩ := h
  exact ⟨h1, h2, fun j x hx => ⟨g, 0, rfl, hl, by rw [Nat.zero_add]; exact (hc.cell hx).1⟩⟩

theorem RowT.new (W : World) (n : Nat) {Z : Array Value} (hZ : Z = (List.replicate n (Value.bool false)).toArray) {g : Nat} (hg : g = W.heap.size) (hn : n ≤ maxLen) : RowT (W.alloc (.cells Z 4)) g n (List.replicate n false) := by
  subst hg hZ
  refine ⟨_, heap_new W _, ?_, by simp, hn, by simp⟩
  simp

/-- A row that was made by appending. -/
theorem ownsRow_T {w : World} {base : Nat} {v : Value} {l : List Bool} (h : w.ownsRow base 4 1 v l.length (l.map Value.bool)) : (v = .slice none 0 0 ∧ l = []) ∨ ∃ g cap, v = .slice (some ⟨g, 0, none⟩) l.length cap ∧ base ≤ g ∧ RowT w g cap l := by
  rcases h.2 with ⟨h1, h2⟩ | ⟨g, cap, cur, rfl, hg, hcur, hnc, hcm, hsz, htk⟩
  · exact .inl ⟨h1, List.length_eq_zero_iff.1 h2⟩
  · exact .inr ⟨g, cap, rfl, hg, cur, hcur, by simpa using htk, by omega, hcm, by omega⟩

theorem ownsRow_at {w : World} {base g n cap : Nat} {l : List Bool} (hl : l.length = n) (h : w.ownsRow base 4 1 (.slice (some ⟨g, 0, none⟩) n cap) n (l.map Value.bool)) : RowT w g cap l := by
  subst hl
  rcases ownsRow_T h with ⟨h1, _⟩ | ⟨g1, c1, h1, _, h2⟩
  · cases h1
  · simp at h1
    obtain ⟨rfl, rfl⟩ := h1
    exact h2

/-! What a world has kept of another one but for one block -/

def Kept (g : Nat) (W wr : World) : Prop := W.heap.size ≤ wr.heap.size ∧ ∀ k, k < W.heap.size → k ≠ g → wr.heap[k]? = W.heap[k]?

theorem Kept.refl (g : Nat) (W : World) : Kept g W W := ⟨Nat.le_refl _, fun _ _ _ => rfl⟩

theorem Kept.below {g : Nat} {W wr w' : World} (h : Kept g W wr) (hb : Below wr.heap.size wr w') : Kept g W w' :=
  ⟨Nat.le_trans h.1 hb.size, fun k hk hn => by rw [hb.block k (Nat.lt_of_lt_of_le hk h.1)]; exact h.2 k hk hn⟩

theorem Kept.set {g : Nat} {W wr : World} (h : Kept g W wr) (j : Nat) (v : Value) : Kept g W (wr.setCell ⟨g, j, none⟩ v) :=
  ⟨by simpa using h.1, fun k hk hn => by rw [Below.heap_setCell _ _ _ _ hn]; exact h.2 k hk hn⟩

theorem Kept.cell {g : Nat} {W wr : World} (h : Kept g W wr) {p : Addr} {v : Value} (hn : p.block ≠ g) (hc : W.cell? p = some v) : wr.cell? p = some v := by
  rw [World.cell?_of_block (w := W) (h.2 p.block (cell_lt hc) hn)]; exact hc

/-! Rows of rows -/

/-- A slice of bools (where it lies, its capacity, what it holds) as a value. -/
def valS (d : (Option Addr × Nat × List Bool)) : Value := .slice d.1 d.2.2.length d.2.1
def rowsOf (ds : List (Option Addr × Nat × List Bool)) : List (List Bool) := ds.map (·.2.2)

theorem rowsOf_length (ds : List (Option Addr × Nat × List Bool)) : (rowsOf ds).length = ds.length := by simp [rowsOf]
theorem rowsOf_get {ds : List (Option Addr × Nat × List Bool)} {j : Nat} {d : (Option Addr × Nat × List Bool)} (h : ds[j]? = some d) : (rowsOf ds)[j]? = some d.2.2 := by unfold rowsOf; rw [List.getElem?_map, h]; rfl

def IsL (w : World) (a : Option Addr) (c : Nat) (ds : List (Option Addr × Nat × List Bool)) : Prop :=
  ds.length ≤ c ∧ c ≤ maxLen ∧ ∀ j d, ds[j]? = some d → IsB w d.1 d.2.1 d.2.2 ∧ ∃ b o, a = some ⟨b, o, none⟩ ∧ b < w.heap.size ∧ w.cell? ⟨b, o + j, none⟩ = some (.slice d.1 d.2.2.length d.2.1)

theorem IsL.below {w w' : World} {a : Option Addr} {c : Nat} {ds : List (Option Addr × Nat × List Bool)} (h : IsL w a c ds) (hb : Below w.heap.size w w') : IsL w' a c ds := by
  refine ⟨h.1, h.2.1, fun j x hx => ?_⟩
  obtain ⟨hB, b, o, ha, hlt, hc⟩ := h.2.2 j x hx
  exact ⟨hB.below hb, b, o, ha, Nat.lt_of_lt_of_le hlt hb.size, by rw [hb.cell (p := ⟨b, o + j, none⟩) hlt]; exact hc⟩

theorem IsL.take {w : World} {a : Option Addr} {c : Nat} {ds : List (Option Addr × Nat × List Bool)} (h : IsL w a c ds) (n : Nat) : IsL w a c (ds.take n) := by
  refine ⟨by rw [List.length_take]; have := h.1; omega, h.2.1, fun j x hx => h.2.2 j x ?_⟩
  rw [List.getElem?_take] at hx
  split at hx
  · exact hx
  · cases hx

theorem IsL.some {w : World} {a : Option Addr} {c : Nat} {ds : List (Option Addr × Nat × List Bool)} (h : IsL w a c ds) (h0 : 0 < ds.length) : ∃ b o, a = .some ⟨b, o, none⟩ ∧ b < w.heap.size := by
  obtain ⟨_, b, o, ha, hl, _⟩ := h.2.2 0 ds[0] (List.getElem?_eq_getElem h0)
  exact ⟨b, o, ha, hl⟩

theorem IsL.rows_le {w : World} {a : Option Addr} {c : Nat} {ds : List (Option Addr × Nat × List Bool)} (h : IsL w a c ds) : ∀ l ∈ rowsOf ds, l.length ≤ maxLen := by
  intro l hl
  obtain ⟨d, hd, rfl⟩ := List.mem_map.1 hl
  obtain ⟨j, hj⟩ := List.getElem?_of_mem hd
  have := (h.2.2 j d hj).1
  exact Nat.le_trans this.1 this.2.1

theorem longest_bound {ls : List (List Bool)} {n : Nat} (h : ∀ l ∈ ls, l.length ≤ n) : longest ls ≤ n := by
  induction ls with
  | nil => exact Nat.zero_le _
  | cons x xs ih =>
    rw [longest]
    have := h x (by simp)
    have := ih fun l hl => h l (by simp [hl])
    omega

set_option maxRecDepth 20000 in
theorem open_lists {H : Type} {enc : TypeId × Value → H} {w : World} {r : Reach} {b0 : Nat} {v : Value} {d : DataW H} {p : List MemPlace}
    (hv : Value.okWide Tryz.prog w r b0 129 v) (h : DataW.Trod enc Tryz.prog w 0 (fun _ => true) true 129 v d p) :
    ∃ a c ds, v = .slice a ds.length c ∧ IsL w a c ds := by
  obtain ⟨a, len, cap, rfl⟩ := okWide_slice Tryz.underlying129 hv
  obtain ⟨fuel, hf⟩ := h
  have hf' : DataW.trod enc Tryz.prog w 0 (fun _ => true) true fuel 129 [.slice a len cap] = some (d, p) := by simpa [Value.cells] using hf
  rcases Deep.open_bool_rows Tryz.underlying129 Tryz.underlying22 Tryz.underlying4 (by kernel_rfl) (by kernel_rfl) hf' with ⟨hcs, _⟩ | ⟨a', n, c, A, L, C, B, hcs, _, hl, hm, _, hcell⟩
  · simp at hcs
    obtain ⟨rfl, rfl, rfl⟩ := hcs
    exact ⟨none, 0, [], rfl, Nat.le_refl _, Nat.zero_le _, fun j m hj => by simp at hj⟩
  · simp at hcs
    obtain ⟨rfl, rfl, rfl⟩ := hcs
    refine ⟨some a', cap, (List.range len).map fun r => (A r, C r, (List.range (L r)).map (B r)), by simp, by simpa using hl, hm, fun j y hy => ?_⟩
    have hj : j < len := by simpa using (List.getElem?_eq_some_iff.1 hy).1
    rw [List.getElem?_map, List.getElem?_range hj] at hy
    simp at hy
    subst hy
    obtain ⟨hc, h1, h2, h3, h4⟩ := hcell j (by omega)
    refine ⟨⟨by simpa using h1, h2, fun i x hx => ?_⟩, ?_⟩
    · have hi : i < L j := by simpa using (List.getElem?_eq_some_iff.1 hx).1
      rw [List.getElem?_map, List.getElem?_range hi] at hx
      simp at hx
      subst hx
      show ∃ b o, A j = _ ∧ _
      cases hA : A j with
      | none => have := h3 hA; omega
      | some x =>
        obtain ⟨_, h5⟩ := h4 x hA
        obtain ⟨b, o, rfl, hb⟩ := spot_none (h5 0 (by omega))
        have hc := h5 i (by omega)
        rw [at_add] at hc
        exact ⟨b, o, rfl, hb, hc⟩
    · obtain ⟨b, o, rfl, hb⟩ := spot_none (hcell 0 (by omega)).1
      rw [at_add] at hc
      exact ⟨b, o, rfl, hb, by simpa using hc⟩

end Go.Proofs.YtaecfbfcjaailaaGreat

namespace Go.Proofs.YtaecfbfcjaailaaGreat
open Go.RowKit Plain
set_option linter.unusedVariables false

end Go.Proofs.YtaecfbfcjaailaaGreat

namespace Go.Proofs.YtaecfbfcjaailaaGreat
open Go.RowKit Plain
set_option linter.unusedVariables false

set_option maxHeartbeats 1000000 in
/-- SAME, at all rows. -/
theorem same_any (a a' : Option Addr) (c c' : Nat) (l m : List Bool) (w : World) (hB : IsB w a c l) (hB' : IsB w a' c' m) :
    Calls Tryz.prog 57 #[.slice a l.length c, .slice a' m.length c'] w fun e w' => e = .returned (.bool (decide (l = m))) ∧ Below w.heap.size w w' := by
  obtain ⟨n, hn⟩ : ∃ n, n = l.length := ⟨_, rfl⟩
  obtain ⟨n', hn'⟩ : ∃ n, n = m.length := ⟨_, rfl⟩
  have HB : Hid (IsB w a c l) := hB
  have HB' : Hid (IsB w a' c' m) := hB'
  have HE : Hid (n = l.length) := hn
  have HE' : Hid (n' = m.length) := hn'
  have hnb : n ≤ 9223372036854775807 := by have := hB.1; have := hB.2.1; unfold maxLen at *; omega
  rw [← hn, ← hn']
  clear hB hB' hn hn'
  by_cases h : n = n'
  · have h' : (n : Int) = n' := by omega
    subst h
    go_enter Tryz.func57, Tryz.ntmps57
    go_wp2
    go_loopw [13] (fun v wr => ∃ j : Nat, j ≤ n ∧ v = .int .i64 j ∧ (∀ i, i < j → l[i]? = m[i]?) ∧ Below w.heap.size w wr) (fun v _ => n - (intOf v).toNat)
    case atStart => exact ⟨0, by omega, rfl, fun i hi => by omega, Below.refl _ _⟩
    case round =>
      obtain ⟨j, hj, rfl, hs, hbel⟩ := hrel
      have HS : Hid (∀ i, i < j → l[i]? = m[i]?) := hs
      clear hs
      by_cases hlt : j < n
      · have hlt' : (j : Int) < n := by omega
        obtain ⟨q, hq⟩ : ∃ q, Hid (l[j]? = some q) := ⟨_, List.getElem?_eq_getElem (by rw [← HE.out]; exact hlt)⟩
        obtain ⟨r, hr⟩ : ∃ q, Hid (m[j]? = some q) := ⟨_, List.getElem?_eq_getElem (by rw [← HE'.out]; exact hlt)⟩
        obtain ⟨b, o, rfl, hbl, hc0⟩ := HB.out.2.2 j q hq.out
        obtain ⟨b', o', rfl, hbl', hc0'⟩ := HB'.out.2.2 j r hr.out
        have hc := cell_below hbel hc0
        have hc' := cell_below hbel hc0'
        by_cases e : q = r
        · have e1 : (!q == r) = false := by rw [e]; simp
          go_wp2
          go_region
          go_wp2
          go_roundw
          case rel =>
            refine ⟨j + 1, by omega, by go_num, fun i hi => ?_, hbel.drew⟩
            by_cases ei : i = j
            · rw [ei, hq.out, hr.out, e]
            · exact HS.out i (by omega)
          case measure => simp [intOf]; omega
        · have e1 : (!q == r) = true := by simp [e]
          have hne : Hid (decide (l = m) = false) := by
            show _ = _
            rw [decide_eq_false_iff_not]
            rintro rfl
            have := hq.out
            rw [hr.out] at this
            exact e (Option.some.inj this).symm
          go_wp2
          go_region
          go_wp2
          go_ret
          exact ⟨ret_bool hne.out.symm, hbel.drew⟩
      · obtain rfl : j = n := by omega
        have heq : Hid (decide (l = m) = true) := by
          show _ = _
          rw [decide_eq_true_eq]
          apply List.ext_getElem?
          intro i
          by_cases hi : i < j
          · exact HS.out i hi
          · rw [List.getElem?_eq_none (by rw [← HE.out]; omega), List.getElem?_eq_none (by rw [← HE'.out]; omega)]
        go_wp2
        go_ret
        exact ⟨ret_bool heq.out.symm, hbel⟩
  · have h' : ((n : Int) != n') = true := by simp; omega
    have hne : Hid (decide (l = m) = false) := by
      show _ = _
      rw [decide_eq_false_iff_not]
      rintro rfl
      exact h (HE.out.trans HE'.out.symm)
    go_enter Tryz.func57, Tryz.ntmps57
    go_wp2
    go_ret
    exact ⟨ret_bool hne.out.symm, Below.refl _ _⟩

end Go.Proofs.YtaecfbfcjaailaaGreat

namespace Go.Proofs.YtaecfbfcjaailaaGreat
open Go.RowKit Plain
set_option linter.unusedVariables false

/-- The least length. -/
def least (n : Nat) : List (List Bool) → Nat
  | [] => n
  | l :: ls => least (min n l.length) ls

theorem least_append (n : Nat) (xs ys : List (List Bool)) : least n (xs ++ ys) = least (least n xs) ys := by
  induction xs generalizing n with
  | nil => rfl
  | cons x xs ih => rw [List.cons_append, least, least, ih]

theorem least_le (n : Nat) (ls : List (List Bool)) : least n ls ≤ n := by
  induction ls generalizing n with
  | nil => exact Nat.le_refl _
  | cons x xs ih => rw [least]; have := ih (min n x.length); omega

theorem least_mem (n : Nat) (ls : List (List Bool)) : ∀ l ∈ ls, least n ls ≤ l.length := by
  induction ls generalizing n with
  | nil => intro l hl; cases hl
  | cons x xs ih =>
    intro l hl
    rw [least]
    rcases List.mem_cons.1 hl with rfl | hl
    · have := least_le (min n l.length) xs; omega
    · exact ih _ l hl

theorem least_is (n : Nat) (ls : List (List Bool)) : least n ls = n ∨ ∃ l ∈ ls, l.length = least n ls := by
  induction ls generalizing n with
  | nil => exact .inl rfl
  | cons x xs ih =>
    rw [least]
    rcases ih (min n x.length) with h | ⟨l, hl, h⟩
    · rw [h]
      by_cases e : n ≤ x.length
      · exact .inl (by omega)
      · exact .inr ⟨x, by simp, by omega⟩
    · exact .inr ⟨l, by simp [hl], h⟩

/-- How many places all lists have. -/
def shortestB (ls : List (List Bool)) : Nat := match ls with
  | [] => 0
  | l :: _ => least l.length ls

theorem shortestB_is {ls : List (List Bool)} (h : ls ≠ []) : ∃ l ∈ ls, l.length = shortestB ls := by
  cases ls with
  | nil => exact absurd rfl h
  | cons x xs =>
    rcases least_is x.length (x :: xs) with h | h
    · exact ⟨x, by simp, h.symm⟩
    · exact h

theorem shortestB_le (ls : List (List Bool)) : ∀ l ∈ ls, shortestB ls ≤ l.length := by
  cases ls with
  | nil => intro l hl; cases hl
  | cons x xs => exact least_mem _ _

theorem countN_nil (n : Nat) (h : n = 0) : countN [] n = 0 := by subst h; rfl

/-- Only places that all lists have count. -/
theorem countB_short (ls : List (List Bool)) : countN ls (shortestB ls) = countB ls := by
  by_cases h : ls = []
  · subst h; rfl
  · obtain ⟨l, hl, he⟩ := shortestB_is h
    unfold countB
    rw [← he, ← countN_past hl _ (longest_le hl)]

theorem take_rows {ds : List (Option Addr × Nat × List Bool)} {j : Nat} {d : (Option Addr × Nat × List Bool)} (h : ds[j]? = some d) : rowsOf (ds.take (j + 1)) = rowsOf (ds.take j) ++ [d.2.2] := by
  unfold rowsOf; rw [List.take_add_one, h, List.map_append]; rfl

set_option maxHeartbeats 1000000 in
theorem longest_any (a : Option Addr) (c : Nat) (ds : List (Option Addr × Nat × List Bool)) (w : World) (hL : IsL w a c ds) :
    Calls Tryz.prog 138 #[.slice a ds.length c] w fun e w' => e = .returned (.int .i64 (longest (rowsOf ds))) ∧ w = w' := by
  obtain ⟨n, hn⟩ : ∃ n, n = ds.length := ⟨_, rfl⟩
  have hnb : n ≤ 9223372036854775807 := by rw [hn]; exact Nat.le_trans hL.1 hL.2.1
  have HL : Hid (IsL w a c ds) := hL
  have HN : Hid (n = ds.length) := hn
  rw [← hn]
  clear hL hn
  go_enter Tryz.func138, Tryz.ntmps138
  go_wp2
  go_loopw [3, 7] (fun u v wr => ∃ j m : Nat, j ≤ n ∧ v = .int .i64 j ∧ m = longest (rowsOf (ds.take j)) ∧ u = .int .i64 m ∧ w = wr) (fun _ v _ => n - (intOf v).toNat)
  case atStart => exact ⟨0, 0, by omega, rfl, rfl, rfl, by trivial⟩
  case round =>
    obtain ⟨j, m, hj, rfl, hm, rfl, rfl⟩ := hrel
    have HM : Hid (m = longest (rowsOf (ds.take j))) := hm
    clear hm
    by_cases hlt : j < n
    · have hlt' : (j : Int) < n := by omega
      obtain ⟨d, hd⟩ : ∃ d, Hid (ds[j]? = some d) := ⟨_, List.getElem?_eq_getElem (by rw [← HN.out]; exact hlt)⟩
      obtain ⟨hdB, b, o, rfl, hbl, hc⟩ := HL.out.2.2 j d hd.out
      obtain ⟨k, hk⟩ : ∃ k, k = d.2.2.length := ⟨_, rfl⟩
      have hkb : k ≤ 9223372036854775807 := by rw [hk]; exact Nat.le_trans hdB.1 hdB.2.1
      rw [← hk] at hc
      have hnx : Hid (longest (rowsOf (ds.take (j + 1))) = max m k) := by
        show _ = _
        rw [take_rows hd.out, longest_append, ← HM.out, hk]
        simp [longest]
      generalize d.1 = da at hc hdB
      generalize d.2.1 = dc at hc hdB
      clear hdB hk hd
      obtain ⟨mx, hmx, hmx'⟩ : ∃ mx : Nat, Hid (mx = max m k) ∧ max (m : Int) k = mx := ⟨_, rfl, by omega⟩
      have hmr := max_run hmx'
      clear hmx'
      go_wp2
      go_roundw
      case rel => exact ⟨j + 1, mx, by omega, by go_num, by rw [hnx.out]; exact hmx.out, rfl, by trivial⟩
      case measure => simp [intOf]; omega
    · obtain rfl : j = n := by omega
      have he : Hid ((m : Int) = ((longest (rowsOf ds) : Nat) : Int)) := by show _ = _; rw [HM.out, HN.out, List.take_length]
      go_wp2
      go_ret
      exact ⟨ret_int he.out, rfl⟩

theorem take_all {ds : List (Option Addr × Nat × List Bool)} {n : Nat} (h : n = ds.length) : rowsOf (ds.take n) = rowsOf ds := by rw [h, List.take_length]

set_option maxHeartbeats 1000000 in
theorem shortest_any (a : Option Addr) (c : Nat) (ds : List (Option Addr × Nat × List Bool)) (w : World) (hL : IsL w a c ds) :
    Calls Tryz.prog 76 #[.slice a ds.length c] w fun e w' => e = .returned (.int .i64 (shortestB (rowsOf ds))) ∧ w = w' := by
  obtain ⟨n, hn⟩ : ∃ n, n = ds.length := ⟨_, rfl⟩
  have hnb : n ≤ 9223372036854775807 := by rw [hn]; exact Nat.le_trans hL.1 hL.2.1
  have HL : Hid (IsL w a c ds) := hL
  have HN : Hid (n = ds.length) := hn
  rw [← hn]
  clear hL hn
  by_cases h0 : n = 0
  · have he : Hid ((0 : Int) = ((shortestB (rowsOf ds) : Nat) : Int)) := by
      show _ = _
      have : ds = [] := List.length_eq_zero_iff.1 (HN.out.symm.trans h0)
      rw [this]; rfl
    subst h0
    go_enter Tryz.func76, Tryz.ntmps76
    go_wp2
    go_ret
    exact ⟨ret_int he.out, rfl⟩
  · have h0' : ((n : Int) == 0) = false := by simp; omega
    have h0n : 0 < n := by omega
    have h0i : (0 : Int) < n := by omega
    obtain ⟨d0, hd0⟩ : ∃ d, Hid (ds[0]? = some d) := ⟨ds[0]'(by rw [← HN.out]; exact h0n), show _ = _ from List.getElem?_eq_getElem (by rw [← HN.out]; exact h0n)⟩
    obtain ⟨hdB0, b, o, rfl, hbl, hc0⟩ := HL.out.2.2 0 d0 hd0.out
    obtain ⟨k0, hk0⟩ : ∃ k, Hid (k = d0.2.2.length) := ⟨_, rfl⟩
    have hkb0 : k0 ≤ 9223372036854775807 := by rw [hk0.out]; exact Nat.le_trans hdB0.1 hdB0.2.1
    rw [← hk0.out] at hc0
    have hsh : Hid (shortestB (rowsOf ds) = least k0 (rowsOf ds)) := by
      show _ = _
      cases hds : ds with
      | nil => rw [hds] at hd0; cases hd0.out
      | cons x xs =>
        have hx := hd0.out
        rw [hds] at hx
        simp at hx
        subst hx
        rw [hk0.out]; rfl
    generalize d0.1 = da0 at hc0 hdB0
    generalize d0.2.1 = dc0 at hc0 hdB0
    clear hdB0 hd0
    rw [Nat.add_zero] at hc0
    go_enter Tryz.func76, Tryz.ntmps76
    go_wp2
    go_loopw [3, 14] (fun u v wr => ∃ j m : Nat, j ≤ n ∧ v = .int .i64 j ∧ m = least k0 (rowsOf (ds.take j)) ∧ m ≤ k0 ∧ u = .int .i64 m ∧ w = wr) (fun _ v _ => n - (intOf v).toNat)
    case atStart => exact ⟨0, k0, by omega, rfl, rfl, Nat.le_refl _, rfl, by trivial⟩
    case round =>
      obtain ⟨j, m, hj, rfl, hm, hmk, rfl, rfl⟩ := hrel
      have HM : Hid (m = least k0 (rowsOf (ds.take j))) := hm
      clear hm
      by_cases hlt : j < n
      · have hlt' : (j : Int) < n := by omega
        obtain ⟨d, hd⟩ : ∃ d, Hid (ds[j]? = some d) := ⟨_, List.getElem?_eq_getElem (by rw [← HN.out]; exact hlt)⟩
        obtain ⟨hdB, b', o', he, hbl, hc⟩ := HL.out.2.2 j d hd.out
        cases he
        obtain ⟨k, hk⟩ : ∃ k, k = d.2.2.length := ⟨_, rfl⟩
        have hkb : k ≤ 9223372036854775807 := by rw [hk]; exact Nat.le_trans hdB.1 hdB.2.1
        rw [← hk] at hc
        have hnx : Hid (least k0 (rowsOf (ds.take (j + 1))) = min m k) := by
          show _ = _
          rw [take_rows hd.out, least_append, ← HM.out, hk]
          simp [least]
        generalize d.1 = da at hc hdB
        generalize d.2.1 = dc at hc hdB
        clear hdB hk hd
        obtain ⟨mx, hmx, hmx', hmk2⟩ : ∃ mx : Nat, Hid (mx = min m k) ∧ min (m : Int) k = mx ∧ mx ≤ k0 := ⟨_, rfl, by omega, by omega⟩
        have hmr := min_run hmx'
        clear hmx'
        go_wp2
        go_roundw
        case rel => exact ⟨j + 1, mx, by omega, by go_num, by rw [hnx.out]; exact hmx.out, hmk2, rfl, by trivial⟩
        case measure => simp [intOf]; omega
      · obtain rfl : j = n := by omega
        have he : Hid ((m : Int) = ((shortestB (rowsOf ds) : Nat) : Int)) := by show _ = _; rw [HM.out, take_all HN.out, hsh.out]
        go_wp2
        go_ret
        exact ⟨ret_int he.out, rfl⟩

/-- Whether all lists have a place. -/
def allB (ls : List (List Bool)) (i : Nat) : Bool := decide (howB ls i = ls.length)

theorem allB_yes {ls : List (List Bool)} {i : Nat} (h : ∀ l ∈ ls, atB l i = true) : allB ls i = true := decide_eq_true (howB_all.2 h)
theorem allB_no {ls : List (List Bool)} {i : Nat} {l : List Bool} (hl : l ∈ ls) (h : atB l i = false) : allB ls i = false := by
  refine decide_eq_false fun hh => ?_
  have := howB_all.1 hh l hl
  rw [h] at this; cases this

set_option maxHeartbeats 1000000 in
theorem allHave_any (a : Option Addr) (c : Nat) (ds : List (Option Addr × Nat × List Bool)) (i : Nat) (w : World) (hL : IsL w a c ds) (hi : ∀ l ∈ rowsOf ds, i < l.length) :
    Calls Tryz.prog 77 #[.slice a ds.length c, .int .i64 i] w fun e w' => e = .returned (.bool (allB (rowsOf ds) i)) ∧ w = w' := by
  obtain ⟨n, hn⟩ : ∃ n, n = ds.length := ⟨_, rfl⟩
  have hnb : n ≤ 9223372036854775807 := by rw [hn]; exact Nat.le_trans hL.1 hL.2.1
  have HL : Hid (IsL w a c ds) := hL
  have HN : Hid (n = ds.length) := hn
  have HI : Hid (∀ l ∈ rowsOf ds, i < l.length) := hi
  rw [← hn]
  clear hL hn hi
  go_enter Tryz.func77, Tryz.ntmps77
  go_wp2
  go_loopw [8] (fun v wr => ∃ j : Nat, j ≤ n ∧ v = .int .i64 j ∧ (∀ l ∈ rowsOf (ds.take j), atB l i = true) ∧ w = wr) (fun v _ => n - (intOf v).toNat)
  case atStart => exact ⟨0, by omega, rfl, fun l hl => (by cases hl), by trivial⟩
  case round =>
    obtain ⟨j, hj, rfl, hall, rfl⟩ := hrel
    have HA : Hid (∀ l ∈ rowsOf (ds.take j), atB l i = true) := hall
    clear hall
    by_cases hlt : j < n
    · have hlt' : (j : Int) < n := by omega
      obtain ⟨d, hd⟩ : ∃ d, Hid (ds[j]? = some d) := ⟨_, List.getElem?_eq_getElem (by rw [← HN.out]; exact hlt)⟩
      have hmem : Hid (d.2.2 ∈ rowsOf ds) := List.mem_of_getElem? (rowsOf_get hd.out)
      obtain ⟨hdB, b, o, rfl, hbl, hc⟩ := HL.out.2.2 j d hd.out
      obtain ⟨q, hq⟩ : ∃ q, Hid (d.2.2[i]? = some q) := ⟨_, List.getElem?_eq_getElem (HI.out _ hmem.out)⟩
      obtain ⟨b2, o2, ha2, hbl2, hc2⟩ := hdB.2.2 i q hq.out
      have hik : i < d.2.2.length := HI.out _ hmem.out
      rw [ha2] at hc
      obtain ⟨k, hk⟩ : ∃ k, k = d.2.2.length := ⟨_, rfl⟩
      rw [← hk] at hc hik
      have hik' : (i : Int) < k := by omega
      generalize d.2.1 = dc at hc hdB
      clear hdB hk
      cases q with
      | false =>
        have hE : Hid (allB (rowsOf ds) i = false) := allB_no hmem.out (atB_some hq.out)
        go_wp2
        go_ret
        exact ⟨ret_bool hE.out.symm, rfl⟩
      | true =>
        have hE : Hid (∀ l ∈ rowsOf (ds.take (j + 1)), atB l i = true) := by
          intro l hl
          rw [take_rows hd.out] at hl
          rcases List.mem_append.1 hl with h | h
          · exact HA.out l h
          · obtain rfl : l = d.2.2 := by simpa using h
            exact atB_some hq.out
        go_wp2
        go_roundw
        case rel => exact ⟨j + 1, by omega, by go_num, hE.out, by trivial⟩
        case measure => simp [intOf]; omega
    · obtain rfl : j = n := by omega
      have hE : Hid (allB (rowsOf ds) i = true) := allB_yes (by have := HA.out; rw [take_all HN.out] at this; exact this)
      go_wp2
      go_ret
      exact ⟨ret_bool hE.out.symm, rfl⟩

theorem countN_succ (ls : List (List Bool)) (n : Nat) : countN ls (n + 1) = countN ls n + bn (allB ls n) := rfl

set_option maxHeartbeats 1000000 in
/-- COUNT, of all rows. -/
theorem count_any (a : Option Addr) (c : Nat) (ds : List (Option Addr × Nat × List Bool)) (w : World) (hL : IsL w a c ds) :
    Calls Tryz.prog 62 #[.slice a ds.length c] w fun e w' => e = .returned (.int .i64 (countB (rowsOf ds))) ∧ w = w' := by
  obtain ⟨n, hn⟩ : ∃ n, n = ds.length := ⟨_, rfl⟩
  obtain ⟨k, hk⟩ : ∃ k, k = shortestB (rowsOf ds) := ⟨_, rfl⟩
  have hnb : n ≤ 9223372036854775807 := by rw [hn]; exact Nat.le_trans hL.1 hL.2.1
  have hkb : k ≤ 9223372036854775807 := by
    rw [hk]
    by_cases h : rowsOf ds = []
    · rw [h]; exact Nat.zero_le _
    · obtain ⟨l, hl, he⟩ := shortestB_is h
      rw [← he]; exact hL.rows_le l hl
  have cs : ∀ W, w = W → Calls Tryz.prog 76 #[.slice a n c] W fun e w' => e = .returned (.int .i64 k) ∧ w = w' := by
    rintro W rfl; rw [hn, hk]; exact shortest_any a c ds w hL
  have ca : ∀ (i : Nat) W, i < k → w = W → Calls Tryz.prog 77 #[.slice a n c, .int .i64 i] W fun e w' => e = .returned (.bool (allB (rowsOf ds) i)) ∧ w = w' := by
    rintro i W hi rfl; rw [hn]; exact allHave_any a c ds i w hL fun l hl => by have := shortestB_le _ l hl; omega
  have HK : Hid (k = shortestB (rowsOf ds)) := hk
  rw [← hn]
  clear hL hn hk
  go_enter Tryz.func62, Tryz.ntmps62
  go_wp2_with (go_at_call 76; refine (cs _ rfl).mono ?_; rintro e w' ⟨rfl, rfl⟩)
  go_loopw [3, 7] (fun u v wr => ∃ j m : Nat, j ≤ k ∧ v = .int .i64 j ∧ m = countN (rowsOf ds) j ∧ m ≤ j ∧ u = .int .i64 m ∧ w = wr) (fun _ v _ => k - (intOf v).toNat)
  case atStart => exact ⟨0, 0, by omega, rfl, rfl, Nat.le_refl _, rfl, by trivial⟩
  case round =>
    obtain ⟨j, m, hj, rfl, hm, hmj, rfl, rfl⟩ := hrel
    have HM : Hid (m = countN (rowsOf ds) j) := hm
    clear hm
    by_cases hlt : j < k
    · have hlt' : (j : Int) < k := by omega
      obtain ⟨q, hq⟩ : ∃ q, Hid (allB (rowsOf ds) j = q) := ⟨_, rfl⟩
      have ca' : ∀ W, w = W → Calls Tryz.prog 77 #[.slice a n c, .int .i64 j] W fun e w' => e = .returned (.bool q) ∧ w = w' := by
        intro W hW; rw [← hq.out]; exact ca j W hlt hW
      have hnx : Hid (countN (rowsOf ds) (j + 1) = m + bn q) := by show _ = _; rw [countN_succ, ← HM.out, hq.out]
      cases q with
      | true =>
        go_wp2_with (go_at_call 77; refine (ca' _ rfl).mono ?_; rintro e w' ⟨rfl, rfl⟩)
        go_roundw
        case rel => exact ⟨j + 1, m + 1, by omega, by go_num, hnx.out.symm, by omega, by go_num, by trivial⟩
        case measure => simp [intOf]; omega
      | false =>
        go_wp2_with (go_at_call 77; refine (ca' _ rfl).mono ?_; rintro e w' ⟨rfl, rfl⟩)
        go_roundw
        case rel => exact ⟨j + 1, m, by omega, by go_num, hnx.out.symm, by omega, rfl, by trivial⟩
        case measure => simp [intOf]; omega
    · obtain rfl : j = k := by omega
      have he : Hid ((m : Int) = ((countB (rowsOf ds) : Nat) : Int)) := by show _ = _; rw [HM.out, HK.out, countB_short]
      go_wp2
      go_ret
      exact ⟨ret_int he.out, rfl⟩

/-! The first free place -/

def anyB (ls : List (List Bool)) (i : Nat) : Bool := ls.any fun l => atB l i

theorem anyB_how {ls : List (List Bool)} {i : Nat} : anyB ls i = false ↔ howB ls i = 0 := by
  rw [howB_none]
  unfold anyB
  rw [List.any_eq_false]

/-- The lists laid over one another: the first k of them, and of one more the first t places. -/
def eithN (N : Nat) (ls : List (List Bool)) (x : List Bool) (t : Nat) : List Bool := (List.range N).map fun i => anyB ls i || (decide (i < t) && atB x i)

theorem eithN_length (N : Nat) (ls : List (List Bool)) (x : List Bool) (t : Nat) : (eithN N ls x t).length = N := by simp [eithN]
theorem eithN_get {N i : Nat} (ls : List (List Bool)) (x : List Bool) (t : Nat) (h : i < N) : (eithN N ls x t)[i]? = some (anyB ls i || (decide (i < t) && atB x i)) := by
  unfold eithN; rw [List.getElem?_map, List.getElem?_range h]; rfl

theorem eithN_zero (N : Nat) (x : List Bool) : eithN N [] x 0 = List.replicate N false := by
  unfold eithN
  apply List.ext_getElem?
  intro i
  by_cases h : i < N
  · rw [List.getElem?_map, List.getElem?_range h, List.getElem?_replicate, if_pos h]; simp [anyB]
  · rw [List.getElem?_eq_none (by simp; omega), List.getElem?_eq_none (by simp; omega)]

theorem eithN_start (N : Nat) (ls : List (List Bool)) (x y : List Bool) : eithN N ls x 0 = eithN N ls y 0 := by
  unfold eithN; apply List.map_congr_left; intro i _; simp

theorem eithN_next (N : Nat) (ls : List (List Bool)) (x y : List Bool) (t : Nat) (ht : t = x.length) : eithN N ls x t = eithN N (ls ++ [x]) y 0 := by
  unfold eithN
  apply List.map_congr_left
  intro i _
  have : anyB (ls ++ [x]) i = (anyB ls i || atB x i) := by unfold anyB; rw [List.any_append]; simp
  rw [this]
  by_cases h : i < t
  · simp [h]
  · rw [atB_past (by omega)]; simp

theorem eithN_set {N t : Nat} (ls : List (List Bool)) (x : List Bool) (h : t < N) : (eithN N ls x t).set t (anyB ls t || atB x t) = eithN N ls x (t + 1) := by
  apply List.ext_getElem?
  intro i
  by_cases hi : i < N
  · rw [eithN_get ls x (t + 1) hi]
    by_cases e : t = i
    · subst e
      rw [List.getElem?_set_self (by rw [eithN_length]; exact h)]
      simp
    · rw [List.getElem?_set_ne e, eithN_get ls x t hi, show decide (i < t + 1) = decide (i < t) from by rw [decide_eq_decide]; omega]
  · rw [List.getElem?_eq_none (by rw [List.length_set, eithN_length]; omega), List.getElem?_eq_none (by rw [eithN_length]; omega)]

set_option maxRecDepth 20000 in
set_option maxHeartbeats 2000000 in
theorem either_any (a : Option Addr) (c : Nat) (ds : List (Option Addr × Nat × List Bool)) (w : World) (hL : IsL w a c ds) (hb : ∀ l ∈ rowsOf ds, l.length ≤ 4096) :
    Calls Tryz.prog 120 #[.slice a ds.length c] w fun e w' => e = .returned (.slice (some ⟨w.heap.size, 0, none⟩) (longest (rowsOf ds)) (longest (rowsOf ds))) ∧ RowT w' w.heap.size (longest (rowsOf ds)) (eithN (longest (rowsOf ds)) (rowsOf ds) [] 0) ∧ Below w.heap.size w w' := by
  obtain ⟨n, hn⟩ : ∃ n, n = ds.length := ⟨_, rfl⟩
  obtain ⟨N, hN⟩ : ∃ k, k = longest (rowsOf ds) := ⟨_, rfl⟩
  have hnb : n ≤ 9223372036854775807 := by rw [hn]; exact Nat.le_trans hL.1 hL.2.1
  have hNb : N ≤ 4096 := by rw [hN]; exact longest_bound hb
  have cl : ∀ W, w = W → Calls Tryz.prog 138 #[.slice a n c] W fun e w' => e = .returned (.int .i64 N) ∧ w = w' := by
    rintro W rfl; rw [hn, hN]; exact longest_any a c ds w hL
  have HL : Hid (IsL w a c ds) := hL
  have HN : Hid (n = ds.length) := hn
  have HX : Hid (∀ l ∈ rowsOf ds, l.length ≤ N) := fun l hl => by rw [hN]; exact longest_le hl
  obtain ⟨Z, hmk, hZ⟩ : ∃ Z : Array Value, (∀ W : World, (Instr.makeSlice 22 (.int .i64 N) (.int .i64 N)).run Tryz.prog W = .ok (.slice (some ⟨W.heap.size, 0, none⟩) N N) (W.alloc (.cells Z 4))) ∧ Hid (Z = (List.replicate N (Value.bool false)).toArray) :=
    ⟨madeCells #[.bool false] N, fun W => run_make_row' (P := Tryz.prog) 22 4 (.bool false) 1 Tryz.underlying22 Tryz.info4 rfl .i64 .i64 N (by omega) (by omega) W, made_one _ N⟩
  have HR : Hid (RowT (w.alloc (.cells Z 4)) w.heap.size N (eithN N (rowsOf (ds.take 0)) [] 0)) := by
    show RowT _ _ _ _
    rw [show rowsOf (ds.take 0) = [] from rfl, eithN_zero]
    exact RowT.new w N hZ.out rfl (by unfold maxLen; omega)
  rw [← hn, ← hN]
  clear hL hn hN hb
  go_enter Tryz.func120, Tryz.ntmps120
  go_wp2_with (go_at_call 138; refine (cl _ rfl).mono ?_; rintro e w' ⟨rfl, rfl⟩)
  clear cl
  go_loopw [11] (fun v wr => ∃ j : Nat, j ≤ n ∧ v = .int .i64 j ∧ RowT wr w.heap.size N (eithN N (rowsOf (ds.take j)) [] 0) ∧ Below w.heap.size w wr) (fun v _ => n - (intOf v).toNat)
  case atStart => exact ⟨0, by omega, rfl, HR.out, (Below.refl _ _).alloc (Nat.le_refl _) _⟩
  case round =>
    obtain ⟨j, hj, rfl, hrow, hbel⟩ := hrel
    have HW : Hid (RowT wr w.heap.size N (eithN N (rowsOf (ds.take j)) [] 0)) := hrow
    clear hrow
    by_cases hlt : j < n
    · have hlt' : (j : Int) < n := by omega
      obtain ⟨d, hd⟩ : ∃ d, Hid (ds[j]? = some d) := ⟨_, List.getElem?_eq_getElem (by rw [← HN.out]; exact hlt)⟩
      have hmem : Hid (d.2.2 ∈ rowsOf ds) := List.mem_of_getElem? (rowsOf_get hd.out)
      obtain ⟨hdB, b, o, rfl, hbl, hc0⟩ := HL.out.2.2 j d hd.out
      have hnx : Hid (rowsOf (ds.take (j + 1)) = rowsOf (ds.take j) ++ [d.2.2]) := take_rows hd.out
      have hxN := HX.out _ hmem.out
      clear hd hmem
      obtain ⟨da, dc, x⟩ := d
      simp only at hdB hc0 hnx hxN
      obtain ⟨k, hk⟩ : ∃ k, k = x.length := ⟨_, rfl⟩
      have HK : Hid (k = x.length) := hk
      have HD : Hid (IsB w da dc x) := hdB
      rw [← hk] at hc0 hxN
      clear hdB hk
      have hc := cell_below hbel hc0
      generalize rowsOf (ds.take j) = ls at HW hnx
      have HW0 : Hid (RowT wr w.heap.size N (eithN N ls x 0)) := by show RowT _ _ _ _; rw [eithN_start N ls x []]; exact HW.out
      go_wp2
      go_loopw [19] (fun v wq => ∃ t : Nat, t ≤ k ∧ v = .int .i64 t ∧ RowT wq w.heap.size N (eithN N ls x t) ∧ Below w.heap.size w wq) (fun v _ => k - (intOf v).toNat)
      case atStart => exact ⟨0, by omega, rfl, HW0.out, hbel⟩
      case round =>
        obtain ⟨t, ht, rfl, hrow, hbel2⟩ := hrel
        have HT : Hid (RowT wr w.heap.size N (eithN N ls x t)) := hrow
        clear hrow
        by_cases htl : t < k
        · have htl' : (t : Int) < k := by omega
          have htN : t < N := by omega
          have htN' : (t : Int) < N := by omega
          obtain ⟨y, hy⟩ : ∃ y, Hid (anyB ls t = y) := ⟨_, rfl⟩
          have hyg : Hid ((eithN N ls x t)[t]? = some y) := by show _ = _; rw [eithN_get ls x t htN, hy.out]; simp
          obtain ⟨hcy, hfy⟩ := HT.out.cell hyg.out
          obtain ⟨q, hq⟩ : ∃ q, Hid (x[t]? = some q) := ⟨_, List.getElem?_eq_getElem (by rw [← HK.out]; exact htl)⟩
          have hset : Hid (RowT (wr.setCell ⟨w.heap.size, t, none⟩ (.bool (y || q))) w.heap.size N (eithN N ls x (t + 1))) := by
            show RowT _ _ _ _
            rw [← eithN_set ls x htN, hy.out, atB_some hq.out]
            exact HT.out.set t _
          obtain ⟨b2, o2, ha2, hbl2, hc20⟩ := HD.out.2.2 t q hq.out
          have hc2 := cell_below hbel2 hc20
          have hcr := cell_below hbel2 hc0
          rw [ha2] at hcr
          clear hq hy hyg HW0 HW
          cases y with
          | true =>
            rw [Bool.true_or] at hset
            go_wp2
            go_roundw
            case rel => exact ⟨t + 1, by omega, by go_num, hset.out, hbel2.setCell (p := ⟨w.heap.size, t, none⟩) (Nat.le_refl _) _⟩
            case measure => simp [intOf]; omega
          | false =>
            rw [Bool.false_or] at hset
            go_wp2
            go_roundw
            case rel => exact ⟨t + 1, by omega, by go_num, hset.out, hbel2.setCell (p := ⟨w.heap.size, t, none⟩) (Nat.le_refl _) _⟩
            case measure => simp [intOf]; omega
        · obtain rfl : t = k := by omega
          have hfin : Hid (RowT wr w.heap.size N (eithN N (rowsOf (ds.take (j + 1))) [] 0)) := by
            show RowT _ _ _ _
            rw [hnx.out, ← eithN_next N ls x [] t HK.out]
            exact HT.out
          go_wp2
          go_roundw
          case rel => exact ⟨j + 1, by omega, by go_num, hfin.out, hbel2⟩
          case measure => simp [intOf]; omega
    · obtain rfl : j = n := by omega
      have hR2 : Hid (RowT wr w.heap.size N (eithN N (rowsOf ds) [] 0)) := by have := HW.out; rw [take_all HN.out] at this; exact this
      go_wp2
      go_ret
      exact ⟨rfl, hR2.out, hbel⟩

theorem eithN_all (N : Nat) (ls : List (List Bool)) {i : Nat} (h : i < N) : (eithN N ls [] 0)[i]? = some (anyB ls i) := by
  rw [eithN_get ls [] 0 h]; simp

set_option maxHeartbeats 1000000 in
/-- FIRST, of rows that are not too long to be laid over one another. -/
theorem first_any (fr : Int) (a : Option Addr) (c : Nat) (ds : List (Option Addr × Nat × List Bool)) (w : World) (hL : IsL w a c ds) (hb : ∀ l ∈ rowsOf ds, l.length ≤ 4096) :
    Calls Tryz.prog 97 #[.int .i64 fr, .slice a ds.length c] w fun e w' => e = .returned (.int .i64 (firstB fr (rowsOf ds))) ∧ Below w.heap.size w w' := by
  obtain ⟨n, hn⟩ : ∃ n, n = ds.length := ⟨_, rfl⟩
  obtain ⟨ls, hls⟩ : ∃ ls, ls = rowsOf ds := ⟨_, rfl⟩
  obtain ⟨N, hN⟩ : ∃ k, Hid (k = longest ls) := ⟨_, rfl⟩
  have hNb : N ≤ 4096 := by rw [hN.out, hls]; exact longest_bound hb
  have ce : ∀ W, w = W → Calls Tryz.prog 120 #[.slice a n c] W fun e w' => e = .returned (.slice (some ⟨w.heap.size, 0, none⟩) N N) ∧ RowT w' w.heap.size N (eithN N ls [] 0) ∧ Below w.heap.size w w' := by
    rintro W rfl; rw [hn, hN.out, hls]; exact either_any a c ds w hL hb
  rw [← hn, ← hls]
  clear hL hn hb hls
  go_enter Tryz.func97, Tryz.ntmps97
  go_wp2_with (go_at_call 120; refine (ce _ rfl).mono ?_; rintro e w1 ⟨rfl, hr, hb⟩; have HR : Hid (RowT w1 w.heap.size N (eithN N ls [] 0)) := hr; clear ce hr)
  go_loopw [11] (fun v wr => ∃ j : Nat, j ≤ N ∧ v = .int .i64 j ∧ (∀ i : Nat, fr ≤ i → i < j → howB ls i ≠ 0) ∧ w1 = wr) (fun v _ => N - (intOf v).toNat)
  case atStart => exact ⟨0, by omega, rfl, fun i _ hi => by omega, by trivial⟩
  case round =>
    obtain ⟨j, hj, rfl, hno, rfl⟩ := hrel
    have HNO : Hid (∀ i : Nat, fr ≤ i → i < j → howB ls i ≠ 0) := hno
    clear hno
    by_cases hlt : j < N
    · have hlt' : (j : Int) < N := by omega
      obtain ⟨q, hq⟩ : ∃ q, Hid (anyB ls j = q) := ⟨_, rfl⟩
      obtain ⟨hc, -⟩ := HR.out.cell (eithN_all N ls hlt)
      rw [hq.out] at hc
      by_cases hf : fr ≤ j
      · cases q with
        | false =>
          have he : Hid ((j : Int) = firstB fr ls) := (firstB_is hf (by rw [← hN.out]; exact hlt) (anyB_how.1 hq.out) HNO.out).symm
          go_wp2
          go_ret
          exact ⟨ret_int he.out, hb⟩
        | true =>
          have hnx : Hid (∀ i : Nat, fr ≤ i → i < j + 1 → howB ls i ≠ 0) := by
            intro i h1 h2
            by_cases e : i = j
            · rw [e]; intro hh; rw [anyB_how.2 hh] at hq; cases hq.out
            · exact HNO.out i h1 (by omega)
          go_wp2
          go_roundw
          case rel => exact ⟨j + 1, by omega, by go_num, hnx.out, by trivial⟩
          case measure => simp [intOf]; omega
      · have hnx : Hid (∀ i : Nat, fr ≤ i → i < j + 1 → howB ls i ≠ 0) := by
          intro i h1 h2
          by_cases e : i = j
          · rw [e] at h1; exact absurd h1 hf
          · exact HNO.out i h1 (by omega)
        go_wp2
        go_roundw
        case rel => exact ⟨j + 1, by omega, by go_num, hnx.out, by trivial⟩
        case measure => simp [intOf]; omega
    · obtain rfl : j = N := by omega
      have he : Hid ((-1 : Int) = firstB fr ls) := (firstB_none fun i h1 h2 => HNO.out i h1 (by rw [hN.out]; exact h2)).symm
      go_wp2
      go_ret
      exact ⟨ret_int he.out, hb⟩

end Go.Proofs.YtaecfbfcjaailaaGreat

namespace Go.Proofs.YtaecfbfcjaailaaGreat
open Go.RowKit Plain
set_option linter.unusedVariables false

/-- A row that the call itself owns, or none. -/
def OwnT (base : Nat) (w : World) (a : Option Addr) (cap : Nat) (l : List Bool) : Prop :=
  (a = none ∧ cap = 0 ∧ l = []) ∨ ∃ g, a = some ⟨g, 0, none⟩ ∧ base ≤ g ∧ RowT w g cap l

theorem OwnT.isB {base : Nat} {w : World} {a : Option Addr} {cap : Nat} {l : List Bool} (h : OwnT base w a cap l) : IsB w a cap l := by
  rcases h with ⟨rfl, rfl, rfl⟩ | ⟨g, rfl, _, hr⟩
  · exact IsB_nil _
  · exact hr.isB

theorem OwnT.below {base : Nat} {w w' : World} {a : Option Addr} {cap : Nat} {l : List Bool} (h : OwnT base w a cap l) (hb : Below w.heap.size w w') : OwnT base w' a cap l := by
  rcases h with h | ⟨g, h1, h2, hr⟩
  · exact .inl h
  · exact .inr ⟨g, h1, h2, hr.below hb⟩

theorem OwnT.some {base : Nat} {w : World} {a : Option Addr} {cap : Nat} {l : List Bool} (h : OwnT base w a cap l) (hl : 0 < l.length) : ∃ g, a = some ⟨g, 0, none⟩ ∧ base ≤ g ∧ RowT w g cap l := by
  rcases h with ⟨_, _, rfl⟩ | h
  · cases hl
  · exact h

theorem isB_src {w : World} {ad : Addr} {c : Nat} {l : List Bool} (h : IsB w (some ad) c l) : ∀ j u, (l.map Value.bool)[j]? = some u → w.cell? (ad.add j) = some u := by
  intro j u hj
  rw [List.getElem?_map] at hj
  obtain ⟨x, hx, rfl⟩ := Option.map_eq_some_iff.1 hj
  obtain ⟨b', o', ha, _, hc⟩ := h.2.2 j x hx
  cases ha
  rw [at_add]
  exact hc

theorem run_append_none {w : World} (base : Nat) (t ty e : TypeId) (i : TypeInfo) (size m c : Nat) (hm : m = 0) (ht : Tryz.prog.underlying t = some (.slice e)) (hi : Tryz.prog.info? e = some i)
    (v : Value) (n : Nat) (xs : List Value) (hown : w.ownsRow base e size v n xs) :
    (Builtin.append_ #[t, t] ty #[v, .slice none m c]).run Tryz.prog w = .ok v w := by
  subst hm
  rcases hown.2 with ⟨rfl, rfl⟩ | ⟨g, cap, cur, rfl, _, _, hnc, _⟩
  · simp [Builtin.append_, run_underlying ht, sizeOf, typeInfo, hi, Builtin.lenOf, Builtin.firstCells]
  · simp [Builtin.append_, run_underlying ht, sizeOf, typeInfo, hi, Builtin.lenOf, Builtin.firstCells, hnc, storeCells]

/-- 'append([]bool{}, l...)': a row of the call's own. -/
theorem copyT (W : World) (a : Option Addr) (c n : Nat) (l : List Bool) (hn : n = l.length) (hB : IsB W a c l) (hz : n ≤ 140737488355328) (ty : TypeId) :
    ∃ g cap w', (Builtin.append_ #[22, 22] ty #[.slice (some ⟨W.heap.size, 0, none⟩) 0 0, .slice a n c]).run Tryz.prog (W.alloc (.cells #[] 4)) = .ok (.slice (some ⟨g, 0, none⟩) n cap) w' ∧ W.heap.size ≤ g ∧ RowT w' g cap l ∧ Below W.heap.size W w' := by
  subst hn
  obtain ⟨i0, hi, hz0, hz1, hz2⟩ := info_parts Tryz.info4
  have hown := World.ownsRow_made (base := W.heap.size) (e := 4) (size := 1) W #[] 0 (Nat.le_refl _) (Nat.zero_le _) rfl
  have hB0 := (Below.refl W.heap.size W).alloc (Nat.le_refl _) (.cells #[] 4)
  cases a with
  | none =>
    have h0 : l = [] := by
      rcases Nat.eq_zero_or_pos l.length with h | h
      · exact List.length_eq_zero_iff.1 h
      · obtain ⟨b, o, hh, _⟩ := hB.some h
        cases hh
    subst h0
    refine ⟨W.heap.size, 0, _, run_append_none W.heap.size _ ty _ i0 1 0 c rfl Tryz.underlying22 hi _ _ _ hown, Nat.le_refl _, ⟨#[], ?_, rfl, Nat.le_refl _, Nat.zero_le _, rfl⟩, hB0⟩
    exact heap_new W _
  | some ad =>
    obtain ⟨v', w', hr, h2, h3, h4⟩ := run_append_own (P := Tryz.prog) (W.alloc (.cells #[] 4)) W.heap.size 22 ty 4 i0 _ 1 1 Tryz.underlying22 hi hz0 hz1 hz2 rfl (by decide) _ 0 _ hown ad l.length c (l.map Value.bool) (by simp) (isB_src (hB.below hB0))
      (fun u hu => by obtain ⟨x, _, rfl⟩ := List.mem_map.1 hu; rfl) (by have := hB.1; have := hB.2.1; unfold maxLen at *; omega) (by omega) (by simp)
    rcases h2.2 with ⟨h, _⟩ | ⟨g, cap, cur, h, hg, hcur, hnc, hcm, hsz, htk⟩
    · exact absurd (h4.1 h).1 (by simp)
    · subst h
      refine ⟨g, cap, w', by rw [hr, Nat.zero_add], hg, ⟨cur, hcur, by simpa using htk, by omega, hcm, by omega⟩, hB0.grown h3 (by simp) (by intro k hk; simp [Value.ownBlock] at hk; omega)⟩

set_option maxHeartbeats 1000000 in
theorem clone_any (a : Option Addr) (c n : Nat) (l : List Bool) (w : World) (hn : n = l.length) (hB : IsB w a c l) (h2 : n ≤ 4096) :
    Calls Tryz.prog 51 #[.slice a n c] w fun e w' => ∃ a' cap, e = .returned (.slice a' n cap) ∧ OwnT w.heap.size w' a' cap l ∧ Below w.heap.size w w' := by
  have q : ∀ (w : World) (a : Option Addr) (n c n' c' : Nat), (binOp .eql 22 (.slice a n c) (.slice none n' c')).run Tryz.prog w = .ok (.bool a.isNone) w := fun w a n c n' c' => Lib.run_eql_slice_nil w _ _ a n c n' c' Tryz.underlying22
  cases a with
  | none =>
    have h0 : l = [] := by
      rcases Nat.eq_zero_or_pos l.length with h | h
      · exact List.length_eq_zero_iff.1 h
      · obtain ⟨b, o, hh, _⟩ := hB.some h
        cases hh
    subst h0
    obtain rfl : n = 0 := hn
    clear hB
    go_enter Tryz.func51, Tryz.ntmps51
    go_wp2
    go_ret
    exact ⟨none, 0, rfl, .inl ⟨rfl, rfl, rfl⟩, Below.refl _ _⟩
  | some ad =>
    obtain ⟨g, cap, w1, hrun, hg, hrow, hb⟩ := copyT w (some ad) c n l hn hB (by omega) 22
    have HR : Hid (RowT w1 g cap l) := hrow
    clear hrow hB hn
    go_enter Tryz.func51, Tryz.ntmps51
    go_wp2_with (at_builtin; refine Lib.wpList_append_run _ rfl _ _ _ _ rfl _ _ rfl rfl _ _ hrun ?_)
    go_ret
    exact ⟨some ⟨g, 0, none⟩, cap, rfl, .inr ⟨g, rfl, hg, HR.out⟩, hb⟩

theorem placesOk_take {l : List Bool} {ps : List Int} {j : Nat} {p : Int} (h : placesOk l (ps.take j) = true) (hp : ps[j]? = some p) (h0 : 0 ≤ p) (h1 : p < l.length) : placesOk l (ps.take (j + 1)) = true := by
  unfold placesOk at h ⊢
  rw [List.take_add_one, hp, List.all_append, h]
  simp [h0, h1]

theorem placesOk_bad {l : List Bool} {ps : List Int} {j : Nat} {p : Int} (hp : ps[j]? = some p) (h : p < 0 ∨ (l.length : Int) ≤ p) : placesOk l ps = false := by
  unfold placesOk
  rw [List.all_eq_false]
  refine ⟨p, List.mem_of_getElem? hp, ?_⟩
  simp
  omega

theorem setB_take (l : List Bool) (is : Bool) {ps : List Int} {j : Nat} {p : Int} (hp : ps[j]? = some p) : setB l is (ps.take (j + 1)) = (setB l is (ps.take j)).set p.toNat is := by
  rw [List.take_add_one, hp, setB_append]; rfl

theorem withE_bad {l : List Bool} {ps : List Int} (h : placesOk l ps = false) : withE l ps = 1 := by unfold withE; rw [h]; rfl
theorem withL_bad {l : List Bool} {is : Bool} {ps : List Int} (h : placesOk l ps = false) : withL l is ps = [] := by unfold withL; rw [h]; rfl
theorem withE_ok {l : List Bool} {ps : List Int} (h : placesOk l ps = true) : withE l ps = 0 := by unfold withE; rw [h]; rfl
theorem withL_ok {l : List Bool} {is : Bool} {ps : List Int} (h : placesOk l ps = true) : withL l is ps = setB l is ps := by unfold withL; rw [h]; rfl

set_option maxRecDepth 20000 in
set_option maxHeartbeats 1000000 in
/-- WITH, at all places, of rows that are not too long to be copied. -/
theorem with_own (a ap : Option Addr) (c cp : Nat) (l : List Bool) (is : Bool) (ps : List Int) (w : World) (hB : IsB w a c l) (hI : IsI w ap cp ps) (hl : l.length ≤ 4096) :
    Calls Tryz.prog 98 #[.slice a l.length c, .bool is, .slice ap ps.length cp] w fun e w' => ∃ a' c', e = .returned (.tuple #[.slice a' (withL l is ps).length c', .int .i64 (withE l ps)]) ∧ OwnT w.heap.size w' a' c' (withL l is ps) ∧ Below w.heap.size w w' := by
  obtain ⟨n, hn⟩ : ∃ n, n = l.length := ⟨_, rfl⟩
  obtain ⟨k, hk⟩ : ∃ n, n = ps.length := ⟨_, rfl⟩
  have hkb : k ≤ 9223372036854775807 := by rw [hk]; exact Nat.le_trans hI.1 hI.2.1
  have hnb : n ≤ 4096 := by omega
  have HI : Hid (IsI w ap cp ps) := hI
  have HN : Hid (n = l.length) := hn
  have HK : Hid (k = ps.length) := hk
  have cc := clone_any a c n l w hn hB hnb
  rw [← hn, ← hk]
  clear hB hI hn hk hl
  go_enter Tryz.func98, Tryz.ntmps98
  go_wp2_with (go_at_call 51; refine cc.mono ?_; rintro e w1 ⟨a1, d1, rfl, ho, hb⟩; have HO : Hid (OwnT w.heap.size w1 a1 d1 l) := ho; clear ho cc)
  go_loopw [15] (fun v wr => ∃ j : Nat, j ≤ k ∧ v = .int .i64 j ∧ placesOk l (ps.take j) = true ∧ OwnT w.heap.size wr a1 d1 (setB l is (ps.take j)) ∧ Below w.heap.size w wr) (fun v _ => k - (intOf v).toNat)
  case atStart => exact ⟨0, by omega, rfl, rfl, HO.out, hb⟩
  case round =>
    obtain ⟨j, hj, rfl, hok, hown, hbel⟩ := hrel
    have HO1 : Hid (OwnT w.heap.size wr a1 d1 (setB l is (ps.take j))) := hown
    have HK1 : Hid (placesOk l (ps.take j) = true) := hok
    clear hown hok
    by_cases hlt : j < k
    · have hlt' : (j : Int) < k := by omega
      obtain ⟨p, hp⟩ : ∃ p, Hid (ps[j]? = some p) := ⟨_, List.getElem?_eq_getElem (by rw [← HK.out]; exact hlt)⟩
      obtain ⟨b, o, rfl, hbl, hc0⟩ := HI.out.2.2 j p hp.out
      have hc := cell_below hbel hc0
      by_cases h0 : p < 0
      · have hE : Hid (placesOk l ps = false) := placesOk_bad hp.out (.inl h0)
        go_wp2
        go_ret2
        exact ⟨none, 0, by rw [withE_bad hE.out, withL_bad hE.out]; rfl, by rw [withL_bad hE.out]; exact .inl ⟨rfl, rfl, rfl⟩, hbel⟩
      · by_cases h1 : (n : Int) ≤ p
        · have hE : Hid (placesOk l ps = false) := placesOk_bad hp.out (.inr (by rw [← HN.out]; exact h1))
          go_wp2
          go_ret2
          exact ⟨none, 0, by rw [withE_bad hE.out, withL_bad hE.out]; rfl, by rw [withL_bad hE.out]; exact .inl ⟨rfl, rfl, rfl⟩, hbel⟩
        · obtain ⟨q, rfl⟩ : ∃ q : Nat, p = q := ⟨p.toNat, by omega⟩
          have hqn : q < n := by omega
          have hqn' : (q : Int) < n := by omega
          have hql : q < (setB l is (ps.take j)).length := by rw [setB_length, ← HN.out]; exact hqn
          obtain ⟨g, rfl, hg, hrow⟩ := HO1.out.some (by omega)
          obtain ⟨hcx, hfx⟩ := hrow.cell (List.getElem?_eq_getElem hql)
          generalize (setB l is (ps.take j))[q]'_ = x at hcx
          have hset : Hid (OwnT w.heap.size (wr.setCell ⟨g, q, none⟩ (.bool is)) (some ⟨g, 0, none⟩) d1 (setB l is (ps.take (j + 1)))) := by
            rw [setB_take l is hp.out]
            exact .inr ⟨g, rfl, hg, hrow.set q is⟩
          have hok2 : Hid (placesOk l (ps.take (j + 1)) = true) := placesOk_take HK1.out hp.out (by omega) (by rw [← HN.out]; exact hqn')
          clear hrow
          go_wp2
          go_roundw
          case rel => exact ⟨j + 1, by omega, by go_num, hok2.out, hset.out, hbel.setCell (p := ⟨g, q, none⟩) hg _⟩
          case measure => simp [intOf]; omega
    · obtain rfl : j = k := by omega
      have hE : Hid (placesOk l ps = true) := by have := HK1.out; rw [HK.out, List.take_length] at this; exact this
      have hS : Hid (OwnT w.heap.size wr a1 d1 (setB l is ps)) := by have := HO1.out; rw [HK.out, List.take_length] at this; exact this
      go_wp2
      go_ret2
      exact ⟨a1, d1, by rw [withE_ok hE.out, withL_ok hE.out, setB_length, ← HN.out]; rfl, by rw [withL_ok hE.out]; exact hS.out, hbel⟩

theorem with_any (a ap : Option Addr) (c cp : Nat) (l : List Bool) (is : Bool) (ps : List Int) (w : World) (hB : IsB w a c l) (hI : IsI w ap cp ps) (hl : l.length ≤ 4096) :
    Calls Tryz.prog 98 #[.slice a l.length c, .bool is, .slice ap ps.length cp] w fun e w' => ∃ a' c', e = .returned (.tuple #[.slice a' (withL l is ps).length c', .int .i64 (withE l ps)]) ∧ IsB w' a' c' (withL l is ps) ∧ Below w.heap.size w w' :=
  (with_own a ap c cp l is ps w hB hI hl).mono fun e w' ⟨a', c', h1, h2, h3⟩ => ⟨a', c', h1, h2.isB, h3⟩

end Go.Proofs.YtaecfbfcjaailaaGreat

namespace Go.Proofs.YtaecfbfcjaailaaGreat
open Go.RowKit Plain
set_option linter.unusedVariables false

theorem isL_one {W : World} {a : Option Addr} {c n : Nat} {l : List Bool} (hn : n = l.length) (h : IsB W a c l) : IsL (W.alloc (.cells #[.slice a n c] 22)) (some ⟨W.heap.size, 0, none⟩) 1 [(a, c, l)] := by
  subst hn
  have hB := (Below.refl W.heap.size W).alloc (Nat.le_refl _) (.cells #[.slice a l.length c] 22)
  refine ⟨Nat.le_refl _, by unfold maxLen; omega, fun j d hd => ?_⟩
  match j, hd with
  | 0, hd =>
    simp at hd
    subst hd
    exact ⟨h.below hB, W.heap.size, 0, rfl, by simp, World.cell?_alloc_at _ _ _ _ rfl⟩

theorem isL_two {W : World} {a b : Option Addr} {c d n m : Nat} {l k : List Bool} (hn : n = l.length) (hm : m = k.length) (h : IsB W a c l) (h' : IsB W b d k) : IsL (W.alloc (.cells #[.slice a n c, .slice b m d] 22)) (some ⟨W.heap.size, 0, none⟩) 2 [(a, c, l), (b, d, k)] := by
  subst hn hm
  have hB := (Below.refl W.heap.size W).alloc (Nat.le_refl _) (.cells #[.slice a l.length c, .slice b k.length d] 22)
  refine ⟨Nat.le_refl _, by unfold maxLen; omega, fun j x hd => ?_⟩
  match j, hd with
  | 0, hd =>
    simp at hd
    subst hd
    exact ⟨h.below hB, W.heap.size, 0, rfl, by simp, World.cell?_alloc_at _ _ _ _ rfl⟩
  | 1, hd =>
    simp at hd
    subst hd
    exact ⟨h'.below hB, W.heap.size, 0, rfl, by simp, World.cell?_alloc_at _ _ _ _ rfl⟩

theorem count_one (W : World) (b : Option Addr) (d n : Nat) (l : List Bool) (hn : n = l.length) (h : IsB W b d l) :
    Calls Tryz.prog 62 #[.slice (some ⟨W.heap.size, 0, none⟩) 1 1] (W.alloc (.cells #[.slice b n d] 22)) fun e w' => e = .returned (.int .i64 (countB [l])) ∧ Below W.heap.size W w' :=
  (count_any _ _ _ _ (isL_one hn h)).mono fun e w' ⟨he, hw⟩ => ⟨he, hw ▸ (Below.refl _ _).alloc (Nat.le_refl _) _⟩

theorem count_two (W : World) (b b' : Option Addr) (d d' n n' : Nat) (l l' : List Bool) (hn : n = l.length) (hn' : n' = l'.length) (h : IsB W b d l) (h' : IsB W b' d' l') :
    Calls Tryz.prog 62 #[.slice (some ⟨W.heap.size, 0, none⟩) 2 2] (W.alloc (.cells #[.slice b n d, .slice b' n' d'] 22)) fun e w' => e = .returned (.int .i64 (countB [l, l'])) ∧ Below W.heap.size W w' :=
  (count_any _ _ _ _ (isL_two hn hn' h h')).mono fun e w' ⟨he, hw⟩ => ⟨he, hw ▸ (Below.refl _ _).alloc (Nat.le_refl _) _⟩

theorem first_one (W : World) (fr : Int) (b : Option Addr) (d n : Nat) (l : List Bool) (hn : n = l.length) (h : IsB W b d l) (hl : n ≤ 4096) :
    Calls Tryz.prog 97 #[.int .i64 fr, .slice (some ⟨W.heap.size, 0, none⟩) 1 1] (W.alloc (.cells #[.slice b n d] 22)) fun e w' => e = .returned (.int .i64 (firstB fr [l])) ∧ Below W.heap.size W w' :=
  (first_any fr _ _ _ _ (isL_one hn h) (fun x hx => by simp [rowsOf] at hx; subst hx; omega)).mono fun e w' ⟨he, hw⟩ => ⟨he, Below.tr ((Below.refl _ _).alloc (Nat.le_refl _) _) hw⟩

theorem with_one (W : World) (a : Option Addr) (c n : Nat) (l : List Bool) (is : Bool) (t : Nat) (hn : n = l.length) (h : IsB W a c l) (hl : n ≤ 4096) (ht : t < n) :
    Calls Tryz.prog 98 #[.slice a n c, .bool is, .slice (some ⟨W.heap.size, 0, none⟩) 1 1] (W.alloc (.cells #[.int .i64 t] 3)) fun e w' => ∃ a' c', e = .returned (.tuple #[.slice a' n c', .int .i64 0]) ∧ IsB w' a' c' (l.set t is) ∧ Below W.heap.size W w' := by
  subst hn
  have hB := (Below.refl W.heap.size W).alloc (Nat.le_refl _) (.cells #[.int .i64 (t : Int)] 3)
  have hok : placesOk l [(t : Int)] = true := by simp [placesOk]; exact ht
  have := with_any a (some ⟨W.heap.size, 0, none⟩) c 1 l is [(t : Int)] _ (h.below hB) (isI_one W t) hl
  rw [withE_ok hok, withL_ok hok] at this
  refine this.mono fun e w' ⟨a', c', he, hI, hb⟩ => ⟨a', c', ?_, hI, Below.tr hB hb⟩
  rw [he, setB_length]

theorem first_two (W : World) (fr : Int) (b b' : Option Addr) (d d' n n' : Nat) (l l' : List Bool) (hn : n = l.length) (hn' : n' = l'.length) (h : IsB W b d l) (h' : IsB W b' d' l') (hl : n ≤ 4096) (hl' : n' ≤ 4096) :
    Calls Tryz.prog 97 #[.int .i64 fr, .slice (some ⟨W.heap.size, 0, none⟩) 2 2] (W.alloc (.cells #[.slice b n d, .slice b' n' d'] 22)) fun e w' => e = .returned (.int .i64 (firstB fr [l, l'])) ∧ Below W.heap.size W w' :=
  (first_any fr _ _ _ _ (isL_two hn hn' h h') (fun x hx => by simp [rowsOf] at hx; rcases hx with rfl | rfl <;> omega)).mono fun e w' ⟨he, hw⟩ => ⟨he, Below.tr ((Below.refl _ _).alloc (Nat.le_refl _) _) hw⟩

/-- With one place set, a row of the call's own. -/
theorem with_own_one (W : World) (a : Option Addr) (c n : Nat) (l : List Bool) (is : Bool) (t : Nat) (hn : n = l.length) (h : IsB W a c l) (hl : n ≤ 4096) (ht : t < n) :
    Calls Tryz.prog 98 #[.slice a n c, .bool is, .slice (some ⟨W.heap.size, 0, none⟩) 1 1] (W.alloc (.cells #[.int .i64 t] 3)) fun e w' => ∃ a' c', e = .returned (.tuple #[.slice a' n c', .int .i64 0]) ∧ OwnT W.heap.size w' a' c' (l.set t is) ∧ Below W.heap.size W w' := by
  subst hn
  have hB := (Below.refl W.heap.size W).alloc (Nat.le_refl _) (.cells #[.int .i64 (t : Int)] 3)
  have hok : placesOk l [(t : Int)] = true := by simp [placesOk]; exact ht
  have := with_own a (some ⟨W.heap.size, 0, none⟩) c 1 l is [(t : Int)] _ (h.below hB) (isI_one W t) hl
  rw [withE_ok hok, withL_ok hok] at this
  refine this.mono fun e w' ⟨a', c', he, hI, hb⟩ => ⟨a', c', ?_, ?_, Below.tr hB hb⟩
  · rw [he, setB_length]
  · rcases hI with h | ⟨g, h1, h2, h3⟩
    · exact .inl h
    · exact .inr ⟨g, h1, Nat.le_trans hB.size h2, h3⟩

end Go.Proofs.YtaecfbfcjaailaaGreat

namespace Go.Proofs.YtaecfbfcjaailaaGreat.Plain
open Go.RowKit
set_option linter.unusedVariables false

/-! Which may be; which blocks are free -/

def rightA (b n : List Bool) : Bool := decide (b.length = n.length) && decide (24 ≤ n.length) && decide (n.length ≤ 2048) && (List.range 10).all fun i => atB b i && atB n i

theorem rightA_iff (b n : List Bool) : rightA b n = true ↔ b.length = n.length ∧ 24 ≤ n.length ∧ n.length ≤ 2048 ∧ ∀ i, i < 10 → atB b i = true ∧ atB n i = true := by
  unfold rightA
  simp only [Bool.and_eq_true, decide_eq_true_eq, List.all_eq_true, List.mem_range]
  constructor
  · rintro ⟨⟨⟨h1, h2⟩, h3⟩, h4⟩; exact ⟨h1, h2, h3, h4⟩
  · rintro ⟨h1, h2, h3, h4⟩; exact ⟨⟨⟨h1, h2⟩, h3⟩, h4⟩

def freeB (b n : List Bool) (i : Nat) : Bool := decide (i < n.length) && (!atB n i && !atB b i)

theorem freeB_iff (b n : List Bool) (i : Nat) : freeB b n i = true ↔ i < n.length ∧ atB n i = false ∧ atB b i = false := by
  unfold freeB
  simp

theorem freeB_how {b n : List Bool} {i : Nat} (hi : i < n.length) : freeB b n i = true ↔ howB [b, n] i = 0 := by
  rw [freeB_iff, howB_none]
  constructor
  · rintro ⟨_, h1, h2⟩ l hl
    simp at hl
    rcases hl with rfl | rfl
    · rw [h2]; simp
    · rw [h1]; simp
  · intro h
    exact ⟨hi, by simpa using h n (by simp), by simpa using h b (by simp)⟩

theorem free_ten {b n : List Bool} (h : rightA b n = true) {i : Nat} (hf : freeB b n i = true) : 10 ≤ i := by
  refine Nat.le_of_not_lt fun hl => ?_
  have := (((rightA_iff b n).1 h).2.2.2 i hl).2
  rw [((freeB_iff b n i).1 hf).2.1] at this
  cases this

/-- How many of the first so many blocks are so. -/
def howN (f : Nat → Bool) : Nat → Nat
  | 0 => 0
  | k + 1 => howN f k + bn (f k)

theorem howN_le (f : Nat → Bool) (k : Nat) : howN f k ≤ k := by
  induction k with
  | zero => exact Nat.le_refl _
  | succ k ih => rw [howN]; have := bn_lt (f k); omega

theorem howN_congr {f g : Nat → Bool} {k : Nat} (h : ∀ i, i < k → f i = g i) : howN f k = howN g k := by
  induction k with
  | zero => rfl
  | succ k ih => rw [howN, howN, ih fun i hi => h i (by omega), h k (by omega)]

theorem howN_filter (f : Nat → Bool) (k : Nat) : howN f k = ((List.range k).filter f).length := by
  induction k with
  | zero => rfl
  | succ k ih =>
    rw [howN, ih, List.range_succ, List.filter_append, List.length_append]
    congr 1
    cases h : f k <;> simp [h, bn]

theorem howN_zero {f : Nat → Bool} {k : Nat} : howN f k = 0 ↔ ∀ i, i < k → f i = false := by
  induction k with
  | zero => exact ⟨fun _ i hi => by omega, fun _ => rfl⟩
  | succ k ih =>
    rw [howN]
    constructor
    · intro h i hi
      by_cases e : i = k
      · subst e
        cases hf : f i with
        | false => rfl
        | true => rw [hf] at h; simp [bn] at h
      · exact ih.1 (by omega) i (by omega)
    · intro h
      rw [ih.2 fun i hi => h i (by omega), h k (by omega)]; rfl

/-- One more that is so. -/
theorem howN_one {f g : Nat → Bool} {k p : Nat} (hp : p < k) (hf : f p = true) (hg : g p = false) (h : ∀ i, i < k → i ≠ p → f i = g i) : howN f k = howN g k + 1 := by
  induction k with
  | zero => omega
  | succ k ih =>
    rw [howN, howN]
    by_cases e : p = k
    · subst e
      rw [hf, hg, howN_congr fun i hi => h i (by omega) (by omega)]
      simp [bn]
    · rw [ih (by omega) fun i hi hn => h i (by omega) hn, h k (by omega) (fun hh => e hh.symm)]
      omega

/-- What is one or the other, never both. -/
theorem howN_or {f g h : Nat → Bool} {k : Nat} (hh : ∀ i, i < k → h i = (f i || g i) ∧ ¬ (f i = true ∧ g i = true)) : howN h k = howN f k + howN g k := by
  induction k with
  | zero => rfl
  | succ k ih =>
    rw [howN, howN, howN, ih fun i hi => hh i (by omega), (hh k (by omega)).1]
    have := (hh k (by omega)).2
    cases hf : f k <;> cases hg : g k <;> simp_all [bn] <;> omega

theorem howN_all {f : Nat → Bool} {k : Nat} (h : ∀ i, i < k → f i = true) : howN f k = k := by
  induction k with
  | zero => rfl
  | succ k ih => rw [howN, ih fun i hi => h i (by omega), h k (by omega)]; rfl

def freeC (b n : List Bool) : Nat := if rightA b n = true then howN (freeB b n) n.length else 0

/-! A new one -/

def freshL (k : Nat) : List Bool := (List.range k).map fun i => decide (i < 10)

theorem freshL_length (k : Nat) : (freshL k).length = k := by simp [freshL]
theorem freshL_at {k i : Nat} (h : i < k) : atB (freshL k) i = decide (i < 10) := by
  apply atB_some
  unfold freshL
  rw [List.getElem?_map, List.getElem?_range h]; rfl
theorem freshL_succ (k : Nat) : freshL (k + 1) = freshL k ++ [decide (k < 10)] := by unfold freshL; rw [List.range_succ, List.map_append]; rfl

theorem freshL_right {k : Nat} (h1 : 24 ≤ k) (h2 : k ≤ 2048) : rightA (freshL k) (freshL k) = true := by
  rw [rightA_iff, freshL_length]
  refine ⟨rfl, h1, h2, fun i hi => ?_⟩
  rw [freshL_at (by omega)]
  exact ⟨decide_eq_true hi, decide_eq_true hi⟩

/-! Taken -/

def takeP (b n : List Bool) : Int := firstB 0 [b, n]
def takeE (b n : List Bool) : Int := if rightA b n = true then (if takeP b n = -1 then 60 else 0) else 1
def takeK (b n : List Bool) : Int := if takeE b n = 0 then takeP b n else 0
def takeB (b n : List Bool) : List Bool := if takeE b n = 0 then b else []
def takeNow (b n : List Bool) : List Bool := if takeE b n = 0 then n.set (takeP b n).toNat true else []

theorem takeP_spec {b n : List Bool} (h : b.length = n.length) :
    (takeP b n = -1 ∧ ∀ i, i < n.length → freeB b n i = false) ∨ ∃ p : Nat, takeP b n = p ∧ p < n.length ∧ freeB b n p = true ∧ ∀ i, i < p → freeB b n i = false := by
  have hL : longest [b, n] = n.length := by simp [longest]; omega
  have hno : ∀ i, i < n.length → howB [b, n] i ≠ 0 → freeB b n i = false := by
    intro i hi hh
    cases hf : freeB b n i with
    | false => rfl
    | true => exact absurd ((freeB_how hi).1 hf) hh
  unfold takeP
  rcases firstB_spec 0 [b, n] with ⟨e, hn⟩ | ⟨p, e, h1, h2, h3, h4⟩
  · exact .inl ⟨e, fun i hi => hno i hi (hn i (by omega) (by omega))⟩
  · refine .inr ⟨p, e, by omega, (freeB_how (by omega)).2 h3, fun i hi => hno i (by omega) (h4 i (by omega) hi)⟩

theorem takeP_is {b n : List Bool} (h : b.length = n.length) {p : Nat} (hp : freeB b n p = true) (hlo : ∀ i, i < p → freeB b n i = false) : takeP b n = p := by
  have hl := ((freeB_iff b n p).1 hp).1
  rcases takeP_spec h with ⟨_, hn⟩ | ⟨q, e, hq, hf, hlo'⟩
  · rw [hn p hl] at hp; cases hp
  · rw [e]
    rcases Nat.lt_trichotomy p q with h | h | h
    · rw [hlo' p h] at hp; cases hp
    · rw [h]
    · rw [hlo q h] at hf; cases hf

theorem takeP_none {b n : List Bool} (h : b.length = n.length) : takeP b n = -1 ↔ howN (freeB b n) n.length = 0 := by
  rw [howN_zero]
  rcases takeP_spec h with ⟨e, hn⟩ | ⟨p, e, hp, hf, _⟩
  · exact ⟨fun _ => hn, fun _ => e⟩
  · constructor
    · intro hh; rw [e] at hh; omega
    · intro hh; rw [hh p hp] at hf; cases hf

theorem atB_setB (l : List Bool) (p i : Nat) (x : Bool) : atB (l.set p x) i = if p = i ∧ i < l.length then x else atB l i := by
  unfold atB
  rw [List.getElem?_set]
  by_cases e : p = i
  · subst e
    by_cases hl : p < l.length
    · rw [if_pos rfl, if_pos hl, if_pos ⟨rfl, hl⟩]; rfl
    · rw [if_pos rfl, if_neg hl, if_neg (fun h => hl h.2), List.getElem?_eq_none (by omega)]
  · rw [if_neg e, if_neg (fun h => e h.1)]

theorem right_set {b n : List Bool} (h : rightA b n = true) {p : Nat} (hp : 10 ≤ p) (x : Bool) : rightA b (n.set p x) = true := by
  rw [rightA_iff] at h ⊢
  rw [List.length_set]
  refine ⟨h.1, h.2.1, h.2.2.1, fun i hi => ⟨(h.2.2.2 i hi).1, ?_⟩⟩
  rw [atB_setB, if_neg (fun hh => by omega)]
  exact (h.2.2.2 i hi).2

theorem set_back {n : List Bool} {p : Nat} (hp : p < n.length) (h : atB n p = false) (x : Bool) : (n.set p x).set p false = n := by
  rw [List.set_set]
  apply List.ext_getElem?
  intro i
  by_cases e : p = i
  · subst e
    rw [List.getElem?_set_self hp, List.getElem?_eq_getElem hp]
    rw [atB_some (List.getElem?_eq_getElem hp)] at h
    rw [h]
  · rw [List.getElem?_set_ne e]

/-- Behind a take: the block is free no more, all others as before; one less is free. -/
theorem free_taken {b n : List Bool} {p : Nat} (hp : freeB b n p = true) : freeB b (n.set p true) p = false ∧ (∀ i, i ≠ p → freeB b (n.set p true) i = freeB b n i) ∧ howN (freeB b n) n.length = howN (freeB b (n.set p true)) n.length + 1 := by
  have hl := ((freeB_iff b n p).1 hp).1
  have h1 : freeB b (n.set p true) p = false := by
    unfold freeB
    rw [atB_setB, if_pos ⟨rfl, hl⟩]; simp
  have h2 : ∀ i, i ≠ p → freeB b (n.set p true) i = freeB b n i := by
    intro i hi
    unfold freeB
    rw [List.length_set, atB_setB, if_neg (fun h => hi h.1.symm)]
  exact ⟨h1, h2, howN_one hl hp h1 fun i _ hn => (h2 i hn).symm⟩

/-! Given -/

/-- What is being made behind blocks that are given, block by block. -/
def giveR (n : List Bool) : List Int → Option (List Bool)
  | [] => some n
  | x :: xs => if 10 ≤ x ∧ x < n.length ∧ atB n x.toNat = true then giveR (n.set x.toNat false) xs else none

theorem giveR_append (n : List Bool) (xs ys : List Int) : giveR n (xs ++ ys) = (giveR n xs).bind fun m => giveR m ys := by
  induction xs generalizing n with
  | nil => rfl
  | cons x xs ih =>
    rw [List.cons_append, giveR, giveR]
    split
    · exact ih _
    · rfl

theorem giveR_length {n m : List Bool} {xs : List Int} (h : giveR n xs = some m) : m.length = n.length := by
  induction xs generalizing n with
  | nil => cases h; rfl
  | cons x xs ih =>
    rw [giveR] at h
    split at h
    · rw [ih h, List.length_set]
    · cases h

theorem giveR_right {b n m : List Bool} {xs : List Int} (hr : rightA b n = true) (h : giveR n xs = some m) : rightA b m = true := by
  induction xs generalizing n with
  | nil => cases h; exact hr
  | cons x xs ih =>
    rw [giveR] at h
    split at h
    · rename_i hx
      exact ih (right_set hr (by omega) false) h
    · cases h

theorem giveR_take {n m : List Bool} {xs : List Int} {j : Nat} {x : Int} (h : giveR n (xs.take j) = some m) (hx : xs[j]? = some x) :
    giveR n (xs.take (j + 1)) = if 10 ≤ x ∧ x < m.length ∧ atB m x.toNat = true then some (m.set x.toNat false) else none := by
  rw [List.take_add_one, hx, giveR_append, h]
  show giveR m [x] = _
  rw [giveR]
  split <;> rfl

theorem giveR_stop {n : List Bool} {xs : List Int} {j : Nat} (h : giveR n (xs.take j) = none) : giveR n xs = none := by
  rw [← List.take_append_drop j xs, giveR_append, h]; rfl

/-- Blocks that are all used, none twice, are given. -/
theorem giveR_all {n : List Bool} {xs : List Int} (hnd : xs.Nodup) (h : ∀ x ∈ xs, 10 ≤ x ∧ x < n.length ∧ atB n x.toNat = true) : giveR n xs = some (setB n false xs) := by
  induction xs generalizing n with
  | nil => rfl
  | cons x xs ih =>
    obtain ⟨h1, h2, h3⟩ := h x (by simp)
    rw [giveR, if_pos ⟨h1, h2, h3⟩, setB]
    rw [List.nodup_cons] at hnd
    refine ih hnd.2 fun y hy => ?_
    obtain ⟨g1, g2, g3⟩ := h y (by simp [hy])
    refine ⟨g1, by rw [List.length_set]; exact g2, ?_⟩
    rw [atB_setB, if_neg]
    · exact g3
    · intro hh
      have : x = y := by omega
      exact hnd.1 (this ▸ hy)

def giveE (b n : List Bool) (xs : List Int) : Int := if rightA b n = true then (if (giveR n xs).isSome = true then 0 else 30) else 1
def giveB (b n : List Bool) (xs : List Int) : List Bool := if giveE b n xs = 0 then b else []
def giveN (b n : List Bool) (xs : List Int) : List Bool := if giveE b n xs = 0 then (giveR n xs).getD [] else []

/-! Committed -/

def commitE (b n : List Bool) : Int := if rightA b n = true then 0 else 1
def commitL (b n : List Bool) : List Bool := if rightA b n = true then n else []

theorem right_commit {b n : List Bool} (h : rightA b n = true) : rightA n n = true := by
  rw [rightA_iff] at h ⊢
  exact ⟨rfl, h.2.1, h.2.2.1, fun i hi => ⟨(h.2.2.2 i hi).2, (h.2.2.2 i hi).2⟩⟩

/-! All that are free, taken one behind the other -/

/-- The free blocks, in their order. -/
def freesL (b n : List Bool) : List Nat := (List.range n.length).filter (freeB b n)

theorem freesL_length {b n : List Bool} : (freesL b n).length = howN (freeB b n) n.length := (howN_filter _ _).symm
theorem freesL_mem {b n : List Bool} {i : Nat} : i ∈ freesL b n ↔ freeB b n i = true := by
  unfold freesL
  rw [List.mem_filter, List.mem_range]
  exact ⟨fun h => h.2, fun h => ⟨((freeB_iff b n i).1 h).1, h⟩⟩
theorem freesL_sorted (b n : List Bool) : (freesL b n).Pairwise (· < ·) := (List.pairwise_lt_range).filter _
theorem freesL_nodup (b n : List Bool) : (freesL b n).Nodup := (freesL_sorted b n).imp (fun h => Nat.ne_of_lt h)

/-- What is being made when the first so many of them have been taken. -/
def fillN (b n : List Bool) (k : Nat) : List Bool := (List.range n.length).map fun i => atB n i || decide (i ∈ (freesL b n).take k)

theorem fillN_length (b n : List Bool) (k : Nat) : (fillN b n k).length = n.length := by simp [fillN]

theorem fillN_at {b n : List Bool} {k i : Nat} (h : i < n.length) : atB (fillN b n k) i = (atB n i || decide (i ∈ (freesL b n).take k)) := by
  apply atB_some
  unfold fillN
  rw [List.getElem?_map, List.getElem?_range h]; rfl

theorem row_ext {l m : List Bool} (hl : l.length = m.length) (h : ∀ i, i < l.length → atB l i = atB m i) : l = m := by
  apply List.ext_getElem?
  intro i
  by_cases hi : i < l.length
  · have := h i hi
    rw [atB_some (List.getElem?_eq_getElem hi), atB_some (List.getElem?_eq_getElem (hl ▸ hi))] at this
    rw [List.getElem?_eq_getElem hi, List.getElem?_eq_getElem (hl ▸ hi), this]
  · rw [List.getElem?_eq_none (by omega), List.getElem?_eq_none (by omega)]

theorem fillN_zero (b n : List Bool) : fillN b n 0 = n := by
  apply row_ext (fillN_length b n 0)
  intro i hi
  rw [fillN_length] at hi
  rw [fillN_at hi]; simp

theorem fillN_free {b n : List Bool} {k i : Nat} (hi : i < n.length) : freeB b (fillN b n k) i = (freeB b n i && !decide (i ∈ (freesL b n).take k)) := by
  unfold freeB
  rw [fillN_length, fillN_at hi]
  cases atB n i <;> cases decide (i ∈ (freesL b n).take k) <;> simp [hi]

/-- The next one that is taken. -/
theorem fillN_take {b n : List Bool} (h : b.length = n.length) {k : Nat} {p : Nat} (hp : (freesL b n)[k]? = some p) : takeP b (fillN b n k) = p ∧ (fillN b n k).set p true = fillN b n (k + 1) := by
  have hpf := freesL_mem.1 (List.mem_of_getElem? hp)
  have hpl := ((freeB_iff b n p).1 hpf).1
  have hk := (List.getElem?_eq_some_iff.1 hp).1
  have hs := freesL_sorted b n
  have hdrop : (freesL b n).drop k = p :: (freesL b n).drop (k + 1) := by
    rw [List.drop_eq_getElem_cons hk]
    congr 1
    exact (List.getElem?_eq_some_iff.1 hp).2
  have hsplit : ((freesL b n).take k ++ p :: (freesL b n).drop (k + 1)).Pairwise (· < ·) := by
    rw [← hdrop, List.take_append_drop]; exact hs
  rw [List.pairwise_append] at hsplit
  obtain ⟨_, h2, h3⟩ := hsplit
  have hpn : p ∉ (freesL b n).take k := fun hh => by have := h3 p hh p (by simp); omega
  constructor
  · refine takeP_is (by rw [fillN_length]; exact h) ?_ ?_
    · rw [fillN_free hpl, hpf, decide_eq_false hpn]; rfl
    · intro i hi
      rw [fillN_free (by omega)]
      cases hf : freeB b n i with
      | false => rfl
      | true =>
        have hm := freesL_mem.2 hf
        rw [← List.take_append_drop k (freesL b n), hdrop, List.mem_append, List.mem_cons] at hm
        rcases hm with hm | rfl | hm
        · rw [decide_eq_true hm]; rfl
        · omega
        · rw [List.pairwise_cons] at h2
          have := h2.1 i hm
          omega
  · apply row_ext (by rw [List.length_set, fillN_length, fillN_length])
    intro i hi
    rw [List.length_set, fillN_length] at hi
    rw [atB_setB, fillN_length, fillN_at hi, fillN_at hi, List.take_add_one, hp]
    by_cases e : p = i
    · subst e
      rw [if_pos ⟨rfl, hi⟩]; simp
    · rw [if_neg (fun hh => e hh.1)]
      congr 1
      rw [decide_eq_decide, List.mem_append]
      constructor
      · exact .inl
      · rintro (hh | hh)
        · exact hh
        · simp at hh; exact absurd hh.symm e

/-- When all are taken none is free. -/
theorem fillN_full {b n : List Bool} (h : b.length = n.length) : takeP b (fillN b n (freesL b n).length) = -1 ∧ howN (freeB b (fillN b n (freesL b n).length)) n.length = 0 := by
  have hz : howN (freeB b (fillN b n (freesL b n).length)) n.length = 0 := by
    rw [howN_zero]
    intro i hi
    rw [fillN_free hi, List.take_length]
    cases hf : freeB b n i with
    | false => rfl
    | true => rw [decide_eq_true (freesL_mem.2 hf)]; rfl
  refine ⟨(takeP_none (by rw [fillN_length]; exact h)).2 ?_, hz⟩
  rw [fillN_length]; exact hz

theorem fillN_right {b n : List Bool} (h : rightA b n = true) (k : Nat) : rightA b (fillN b n k) = true := by
  rw [rightA_iff] at h ⊢
  rw [fillN_length]
  refine ⟨h.1, h.2.1, h.2.2.1, fun i hi => ⟨(h.2.2.2 i hi).1, ?_⟩⟩
  rw [fillN_at (by omega), (h.2.2.2 i hi).2]; rfl

/-- Given back, in whatever order, they are free as before. -/
theorem fill_back {b n : List Bool} (h : rightA b n = true) {xs : List Int} (hnd : xs.Nodup) (hm : ∀ x : Int, x ∈ xs ↔ ∃ i ∈ freesL b n, x = (i : Nat)) : giveR (fillN b n (freesL b n).length) xs = some n := by
  have hfr : ∀ i ∈ freesL b n, 10 ≤ i ∧ i < n.length ∧ atB n i = false := by
    intro i hi
    have hf := freesL_mem.1 hi
    exact ⟨free_ten h hf, ((freeB_iff b n i).1 hf).1, ((freeB_iff b n i).1 hf).2.1⟩
  have hall : ∀ x ∈ xs, 10 ≤ x ∧ x < (fillN b n (freesL b n).length).length ∧ atB (fillN b n (freesL b n).length) x.toNat = true := by
    intro x hx
    obtain ⟨i, hi, rfl⟩ := (hm x).1 hx
    obtain ⟨h1, h2, h3⟩ := hfr i hi
    refine ⟨by omega, by rw [fillN_length]; omega, ?_⟩
    rw [Int.toNat_natCast, fillN_at h2, List.take_length, decide_eq_true hi, Bool.or_true]
  rw [giveR_all hnd hall, Option.some_inj]
  apply row_ext (by rw [setB_length, fillN_length])
  intro i hi
  rw [setB_length, fillN_length] at hi
  have hok : placesOk (fillN b n (freesL b n).length) xs = true := by
    unfold placesOk
    rw [List.all_eq_true]
    intro x hx
    obtain ⟨h1, h2, _⟩ := hall x hx
    simp
    omega
  rw [atB_some (setB_get _ _ _ hok i (by rw [fillN_length]; exact hi))]
  by_cases hx : (i : Int) ∈ xs
  · rw [if_pos hx]
    obtain ⟨j, hj, e⟩ := (hm i).1 hx
    obtain rfl : i = j := by omega
    exact (hfr i hj).2.2.symm
  · rw [if_neg hx]
    have hnf : i ∉ freesL b n := fun hh => hx ((hm i).2 ⟨i, hh, rfl⟩)
    have := fillN_at (b := b) (k := (freesL b n).length) hi
    rw [atB_some (List.getElem?_eq_getElem (by rw [fillN_length]; exact hi)), List.take_length, decide_eq_false hnf, Bool.or_false] at this
    exact this

/-! Sets of blocks: which are used by what is being made, which by what counts -/

/-- How many blocks are free, told by how many are used. -/
theorem free_count {b n : List Bool} (h : rightA b n = true) :
    howN (freeB b n) n.length + 10 + howN (fun i => decide (10 ≤ i) && atB n i) n.length + howN (fun i => decide (10 ≤ i) && atB b i && !atB n i) n.length = n.length := by
  obtain ⟨h1, h2, h3, h4⟩ := (rightA_iff b n).1 h
  have e10 : howN (fun i => decide (i < 10)) n.length = 10 := by
    have : ∀ m, 10 ≤ m → howN (fun i => decide (i < 10)) m = 10 := by
      intro m hm
      induction m with
      | zero => omega
      | succ m ih =>
        rw [howN]
        by_cases hm' : 10 ≤ m
        · rw [ih hm', decide_eq_false (by omega)]; rfl
        · obtain rfl : m = 9 := by omega
          rfl
    exact this _ (by omega)
  have a1 : howN (fun i => decide (i < 10) || (decide (10 ≤ i) && atB n i)) n.length = 10 + howN (fun i => decide (10 ≤ i) && atB n i) n.length := by
    rw [howN_or (f := fun i => decide (i < 10)) (g := fun i => decide (10 ≤ i) && atB n i), e10]
    intro i hi
    refine ⟨rfl, ?_⟩
    simp
    omega
  have a2 : howN (fun i => freeB b n i || (decide (10 ≤ i) && atB b i && !atB n i)) n.length = howN (freeB b n) n.length + howN (fun i => decide (10 ≤ i) && atB b i && !atB n i) n.length := by
    refine howN_or fun i hi => ⟨rfl, ?_⟩
    rintro ⟨g1, g2⟩
    have := ((freeB_iff b n i).1 g1).2.2
    simp [this] at g2
  have a3 : howN (fun _ => true) n.length = n.length := howN_all fun i hi => rfl
  have a4 : howN (fun _ => true) n.length = howN (fun i => decide (i < 10) || (decide (10 ≤ i) && atB n i)) n.length + howN (fun i => freeB b n i || (decide (10 ≤ i) && atB b i && !atB n i)) n.length := by
    refine howN_or fun i hi => ?_
    by_cases h10 : i < 10
    · have hb := (h4 i h10).1
      have hn := (h4 i h10).2
      simp [freeB, h10, hb, hn]
    · have h10' : 10 ≤ i := by omega
      cases hn : atB n i <;> cases hb : atB b i <;> simp [freeB, h10, h10', hb, hn, hi]
  omega

end Go.Proofs.YtaecfbfcjaailaaGreat.Plain

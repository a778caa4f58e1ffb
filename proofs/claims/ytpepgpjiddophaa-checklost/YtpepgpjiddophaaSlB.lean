/-
  Texts laid together: NodeStand NodeRead NodeOnce NodeGet NodeGetB NodeRefB NodeRefGet NodeRefGetI BitsMem BitsBytes BitsRef BitsFind BitsWith BitsOnes AllocMem Anyheld AllocRight Anyorder AllocFree AllocNew AllocDo AllocRef LookHolds LookRef LookOwn LookLaw NodeLike NodeIn LookRightsOf PageWant LookLoad CheckStep CheckMem.
-/
import Derived.Test.YtpepgpjiddophaaSlA
import Derived.Lib.AppendZeros
import Derived.Deep.Grids
import Derived.Laws.BitsAllLaws
import Derived.BigQuiet
import Derived.Test.YtpepgpjiddophaaRows
import Derived.Deep.RegionHeld3
import Derived.Orders
import Derived.WalkKit
import Derived.Below
import Derived.Maps.RangeWalk
namespace Go.Proofs.Ytpepgpjiddophaa
open Go.RowKit Plain
set_option linter.unusedVariables false
def keysN (ks : List ByteArray) : Bool := ks.all keyOk && risingK ks
def valsN (vs : List ByteArray) : Bool := vs.all valOk
def kidsN (cs : List Int) : Bool := cs.all kidOk
theorem standsN_parts (l : Bool) (ks vs : List ByteArray) (cs : List Int) : standsN l ks vs cs = (decide (ks.length ≤ 9) && keysN ks && valsN vs && kidsN cs && shapeN l ks.length vs.length cs.length) := by
 unfold standsN keysN valsN kidsN
 simp only [Bool.and_assoc]
theorem idx_of {α : Type} {xs : List α} {x : α} (h : x ∈ xs) : ∃ i, i < xs.length ∧ xs[i]? = some x := by
 obtain ⟨i, hi, e⟩ := List.getElem_of_mem h
 exact ⟨i, hi, by rw [List.getElem?_eq_getElem hi, e]⟩
theorem keysN_iff {ks : List ByteArray} : keysN ks = true ↔ (∀ k ∈ ks, 1 ≤ k.size ∧ k.size ≤ 32) ∧ risingK ks = true := by
 unfold keysN keyOk
 simp only [Bool.and_eq_true, List.all_eq_true, decide_eq_true_eq]
theorem keysN_all {ks : List ByteArray} (hk : keysTo ks ks.length) : keysN ks = true :=
 keysN_iff.2 ⟨fun k hm => by obtain ⟨i, hi, e⟩ := idx_of hm; exact hk.1 i k hi e, rising_next.2 fun i x y hx hy => hk.2 i x y (List.getElem?_eq_some_iff.1 hy).1 hx hy⟩
theorem keysN_key {ks : List ByteArray} {j : Nat} {x : ByteArray} (hj : ks[j]? = some x) (h : ¬ (1 ≤ x.size ∧ x.size ≤ 32)) : keysN ks = false := by
 rw [Bool.eq_false_iff]; exact fun hh => h ((keysN_iff.1 hh).1 x (List.mem_of_getElem? hj))
theorem keysN_fall {ks : List ByteArray} {j : Nat} {x y : ByteArray} (hj : ks[j]? = some x) (hj' : ks[j + 1]? = some y) (h : ltB x y = false) : keysN ks = false := by
 rw [Bool.eq_false_iff]
 intro hh
 have := rising_next.1 (keysN_iff.1 hh).2 j x y hj hj'
 rw [h] at this; cases this
theorem valsN_iff {vs : List ByteArray} : valsN vs = true ↔ ∀ v ∈ vs, v.size ≤ 200 := by
 unfold valsN valOk
 simp only [List.all_eq_true, decide_eq_true_eq]
theorem kidsN_iff {cs : List Int} : kidsN cs = true ↔ ∀ c ∈ cs, 10 ≤ c ∧ c ≤ 2047 := by
 unfold kidsN kidOk
 simp only [Bool.and_eq_true, List.all_eq_true, decide_eq_true_eq]
theorem nil_list : (⟨#[]⟩ : ByteArray).toList = [] := by rw [ByteArray.toList_eq]
theorem empty_size {x : ByteArray} (h : ¬ x = ⟨#[]⟩) : 1 ≤ x.size := by
 rcases Nat.eq_zero_or_pos x.size with h0 | h0
 ·
  exfalso
  apply h
  apply bytes_ext
  have : x.data.toList.length = 0 := h0
  rw [List.length_eq_zero_iff.1 this]
 ·
  exact h0
set_option maxHeartbeats 1000000 in
theorem areKeys_any (a : Option Addr) (c n : Nat) (ks : List ByteArray) (w : World) (hn : n = ks.length) (hK : IsS w a c ks) :
  Calls Try.prog 65 #[.slice a n c] w fun e w' => e = .returned (.bool (keysN ks)) ∧ Below w.heap.size w w' := by
 have HK : Hid (IsS w a c ks) := hK
 have hm : n ≤ 9223372036854775807 := by rw [hn]; exact hK.size
 have EK : Hid (n = ks.length) := hn
 have hB0 : Below w.heap.size w w := Below.refl _ _
 clear hK hn
 obtain ⟨r, hr⟩ : ∃ r, r = keysN ks := ⟨_, rfl⟩
 have HR : Hid (r = keysN ks) := hr
 rw [← hr]
 clear hr
 go_enter Try.func65, Try.ntmps65
 go_wp2
 go_loop [7] (fun v => ∃ j : Nat, j ≤ n ∧ v = .int .i64 j ∧ keysTo ks j) (fun v => n - (intOf v).toNat)
 case atStart => exact ⟨0, by omega, rfl, keysTo_zero ks⟩
 case round =>
  obtain ⟨j, hj, rfl, hA⟩ := hrel
  have HA : Hid (keysTo ks j) := hA
  clear hA
  by_cases hlt : j < n
  ·
   have hlt' : (j : Int) < n := by omega
   obtain ⟨x, hx⟩ : ∃ x, Hid (ks[j]? = some x) := ⟨_, List.getElem?_eq_getElem (by rw [← EK.out]; exact hlt)⟩
   obtain ⟨b, o, rfl, hlb, hc, hxs⟩ := HK.out.2.2 j x hx.out
   unfold maxLen at hxs
   by_cases h1 : x = ⟨#[]⟩
   ·
    have h1' : x.toList = [] := by rw [h1]; exact nil_list
    have hF : Hid (r = false) := by show _ = _; rw [HR.out]; exact keysN_key hx.out (by rw [h1]; simp [ByteArray.size])
    clear h1
    go_wp2
    go_ret
    exact ⟨ret_bool hF.out.symm, hB0⟩
   ·
    have h1' : ¬ x.toList = [] := fun h => h1 (toList_inj (h.trans nil_list.symm))
    have h1'' : x.toList.isEmpty = false := by rw [List.isEmpty_eq_false_iff]; exact h1'
    have h1s : Hid (1 ≤ x.size) := empty_size h1
    clear h1
    by_cases h2 : (x.size : Int) ≤ 32
    ·
     by_cases h0 : (0 : Int) < j
     ·
      obtain ⟨i, rfl⟩ : ∃ i, j = i + 1 := ⟨j - 1, by omega⟩
      obtain ⟨p, hp⟩ : ∃ x, Hid (ks[i]? = some x) := ⟨_, List.getElem?_eq_getElem (by rw [← EK.out]; omega)⟩
      obtain ⟨b2, o2, hbo, hlb2, hc2, hps⟩ := HK.out.2.2 i p hp.out
      obtain ⟨rfl, rfl⟩ : b2 = b ∧ o2 = o := by cases hbo; exact ⟨rfl, rfl⟩
      clear hbo hlb hlb2 hps
      have hi0 : ((i + 1 : Nat) : Int) - 1 = i := by omega
      have hin : i < n := by omega
      cases hlt2 : ltB p x with
      | true =>
       have hle : Op.bytesLess p.toList x.toList = true := hlt2
       have hN : Hid (keysTo ks (i + 1 + 1)) := keysTo_next HA.out hp.out hx.out h1s.out (by omega) hlt2
       clear hlt2
       go_wp2
       go_round
       case rel => exact ⟨i + 1 + 1, by omega, by go_num, hN.out⟩
       case measure => simp [intOf]; omega
      | false =>
       have hle : Op.bytesLess p.toList x.toList = false := hlt2
       have hF : Hid (r = false) := by show _ = _; rw [HR.out]; exact keysN_fall hp.out hx.out hlt2
       clear hlt2
       go_wp2
       go_ret
       exact ⟨ret_bool hF.out.symm, hB0⟩
     ·
      obtain rfl : j = 0 := by omega
      rw [Nat.add_zero] at hc
      have hN : Hid (keysTo ks 1) := keysTo_first hx.out h1s.out (by omega)
      go_wp2
      go_round
      case rel => exact ⟨1, by omega, by go_num, hN.out⟩
      case measure => simp [intOf]; omega
    ·
     have hF : Hid (r = false) := by show _ = _; rw [HR.out]; exact keysN_key hx.out (by omega)
     go_wp2
     go_ret
     exact ⟨ret_bool hF.out.symm, hB0⟩
  ·
   obtain rfl : j = n := by omega
   have hT : Hid (r = true) := by show _ = _; rw [HR.out]; exact keysN_all (by rw [← EK.out]; exact HA.out)
   go_wp2
   go_ret
   exact ⟨ret_bool hT.out.symm, hB0⟩
set_option maxHeartbeats 1000000 in
theorem areValues_any (a : Option Addr) (c n : Nat) (vs : List ByteArray) (w : World) (hn : n = vs.length) (hV : IsS w a c vs) :
  Calls Try.prog 66 #[.slice a n c] w fun e w' => e = .returned (.bool (valsN vs)) ∧ Below w.heap.size w w' := by
 have HK : Hid (IsS w a c vs) := hV
 have hm : n ≤ 9223372036854775807 := by rw [hn]; exact hV.size
 have EK : Hid (n = vs.length) := hn
 have hB0 : Below w.heap.size w w := Below.refl _ _
 clear hV hn
 obtain ⟨r, hr⟩ : ∃ r, r = valsN vs := ⟨_, rfl⟩
 have HR : Hid (r = valsN vs) := hr
 rw [← hr]
 clear hr
 go_enter Try.func66, Try.ntmps66
 go_wp2
 go_loop [7] (fun v => ∃ i : Nat, i ≤ n ∧ v = .int .i64 i ∧ allTo (fun v => v.size ≤ 200) vs i) (fun v => n - (intOf v).toNat)
 case atStart => exact ⟨0, by omega, rfl, fun i x hi => by omega⟩
 case round =>
  obtain ⟨i, hi, rfl, hA⟩ := hrel
  have HA : Hid (allTo (fun v => v.size ≤ 200) vs i) := hA
  clear hA
  by_cases hlt : i < n
  ·
   have hlt' : (i : Int) < n := by omega
   obtain ⟨x, hx⟩ : ∃ x, Hid (vs[i]? = some x) := ⟨_, List.getElem?_eq_getElem (by rw [← EK.out]; exact hlt)⟩
   obtain ⟨b, o, rfl, hlb, hc, hxs⟩ := HK.out.2.2 i x hx.out
   unfold maxLen at hxs
   by_cases h2 : (x.size : Int) ≤ 200
   ·
    have hN : Hid (allTo (fun v => v.size ≤ 200) vs (i + 1)) := allTo_next HA.out hx.out (by omega)
    go_wp2
    go_round
    case rel => exact ⟨i + 1, by omega, by go_num, hN.out⟩
    case measure => simp [intOf]; omega
   ·
    have hF : Hid (r = false) := by
     show _ = _
     rw [HR.out, Bool.eq_false_iff]
     exact fun hh => h2 (by have := valsN_iff.1 hh x (List.mem_of_getElem? hx.out); omega)
    go_wp2
    go_ret
    exact ⟨ret_bool hF.out.symm, hB0⟩
  ·
   obtain rfl : i = n := by omega
   have hT : Hid (r = true) := by
    show _ = _
    rw [HR.out]
    exact valsN_iff.2 fun v hm => by obtain ⟨j, hj, e⟩ := idx_of hm; exact HA.out j v (by rw [EK.out]; exact hj) e
   go_wp2
   go_ret
   exact ⟨ret_bool hT.out.symm, hB0⟩
set_option maxHeartbeats 1000000 in
theorem areBlocks_any (a : Option Addr) (c n : Nat) (cs : List Int) (w : World) (hn : n = cs.length) (hC : IsI w a c cs) :
  Calls Try.prog 67 #[.slice a n c] w fun e w' => e = .returned (.bool (kidsN cs)) ∧ Below w.heap.size w w' := by
 have HK : Hid (IsI w a c cs) := hC
 have hm : n ≤ 9223372036854775807 := by rw [hn]; exact hC.size
 have EK : Hid (n = cs.length) := hn
 have hB0 : Below w.heap.size w w := Below.refl _ _
 clear hC hn
 obtain ⟨r, hr⟩ : ∃ r, r = kidsN cs := ⟨_, rfl⟩
 have HR : Hid (r = kidsN cs) := hr
 rw [← hr]
 clear hr
 go_enter Try.func67, Try.ntmps67
 go_wp2
 go_loop [7] (fun v => ∃ i : Nat, i ≤ n ∧ v = .int .i64 i ∧ allTo (fun c => 10 ≤ c ∧ c ≤ 2047) cs i) (fun v => n - (intOf v).toNat)
 case atStart => exact ⟨0, by omega, rfl, fun i x hi => by omega⟩
 case round =>
  obtain ⟨i, hi, rfl, hA⟩ := hrel
  have HA : Hid (allTo (fun c => 10 ≤ c ∧ c ≤ 2047) cs i) := hA
  clear hA
  by_cases hlt : i < n
  ·
   have hlt' : (i : Int) < n := by omega
   obtain ⟨x, hx⟩ : ∃ x, Hid (cs[i]? = some x) := ⟨_, List.getElem?_eq_getElem (by rw [← EK.out]; exact hlt)⟩
   obtain ⟨b, o, rfl, hlb, hc⟩ := HK.out.2.2 i x hx.out
   have hF' : Hid (¬ (10 ≤ x ∧ x ≤ 2047) → r = false) := fun h => by
    rw [HR.out, Bool.eq_false_iff]
    exact fun hh => h (kidsN_iff.1 hh x (List.mem_of_getElem? hx.out))
   by_cases h1 : 10 ≤ x
   ·
    by_cases h2 : x < 2048
    ·
     have hN : Hid (allTo (fun c => 10 ≤ c ∧ c ≤ 2047) cs (i + 1)) := allTo_next HA.out hx.out ⟨h1, by omega⟩
     go_wp2
     go_round
     case rel => exact ⟨i + 1, by omega, by go_num, hN.out⟩
     case measure => simp [intOf]; omega
    ·
     have hF : Hid (r = false) := hF'.out (by omega)
     go_wp2
     go_ret
     exact ⟨ret_bool hF.out.symm, hB0⟩
   ·
    have hF : Hid (r = false) := hF'.out (by omega)
    go_wp2
    go_ret
    exact ⟨ret_bool hF.out.symm, hB0⟩
  ·
   obtain rfl : i = n := by omega
   have hT : Hid (r = true) := by
    show _ = _
    rw [HR.out]
    exact kidsN_iff.2 fun v hm => by obtain ⟨j, hj, e⟩ := idx_of hm; exact HA.out j v (by rw [EK.out]; exact hj) e
   go_wp2
   go_ret
   exact ⟨ret_bool hT.out.symm, hB0⟩
set_option maxHeartbeats 2000000 in
theorem mayStand_any (l : Bool) (a a' a'' : Option Addr) (c c' c'' n n' n'' : Nat) (ks vs : List ByteArray) (cs : List Int) (w : World) (hn : n = ks.length) (hn' : n' = vs.length) (hn'' : n'' = cs.length) (hK : IsS w a c ks) (hV : IsS w a' c' vs) (hC : IsI w a'' c'' cs) :
  Calls Try.prog 52 #[.agg #[.bool l, .slice a n c, .slice a' n' c', .slice a'' n'' c'']] w fun e w' => e = .returned (.bool (standsN l ks vs cs)) ∧ Below w.heap.size w w' := by
 have hB0 : Below w.heap.size w (w.alloc (.cells #[.bool l, .slice a n c, .slice a' n' c', .slice a'' n'' c''] 62)) := (Below.refl _ _).alloc (Nat.le_refl _) _
 have hX := box4_new w (.bool l) (.slice a n c) (.slice a' n' c') (.slice a'' n'' c'') 62 rfl
 have cK : ∀ W', Below w.heap.size w W' → Calls Try.prog 65 #[.slice a n c] W' fun e w' => e = .returned (.bool (keysN ks)) ∧ Below W'.heap.size W' w' := fun W' h => areKeys_any _ _ _ _ _ hn (hK.below h)
 have cV : ∀ W', Below w.heap.size w W' → Calls Try.prog 66 #[.slice a' n' c'] W' fun e w' => e = .returned (.bool (valsN vs)) ∧ Below W'.heap.size W' w' := fun W' h => areValues_any _ _ _ _ _ hn' (hV.below h)
 have cC : ∀ W', Below w.heap.size w W' → Calls Try.prog 67 #[.slice a'' n'' c''] W' fun e w' => e = .returned (.bool (kidsN cs)) ∧ Below W'.heap.size W' w' := fun W' h => areBlocks_any _ _ _ _ _ hn'' (hC.below h)
 have hm : n ≤ 9223372036854775807 := by rw [hn]; exact hK.size
 have hm' : n' ≤ 9223372036854775807 := by rw [hn']; exact hV.size
 have hm'' : n'' ≤ 9223372036854775807 := by rw [hn'']; exact hC.size
 obtain ⟨r, hr⟩ : ∃ r, r = standsN l ks vs cs := ⟨_, rfl⟩
 have HR : Hid (r = (decide (n ≤ 9) && keysN ks && valsN vs && kidsN cs && shapeN l n n' n'')) := by show _ = _; rw [hr, hn, hn', hn'']; exact standsN_parts l ks vs cs
 have HV0 : Hid (n' = 0 → valsN vs = true) := fun h => by rw [hn'] at h; rw [List.length_eq_zero_iff.1 h]; rfl
 have HC0 : Hid (n'' = 0 → kidsN cs = true) := fun h => by rw [hn''] at h; rw [List.length_eq_zero_iff.1 h]; rfl
 rw [← hr]
 clear hr hn hn' hn'' hK hV hC
 generalize keysN ks = kk at cK HR
 generalize valsN vs = vv at cV HR HV0
 generalize kidsN cs = cc at cC HR HC0
 by_cases h9 : (n : Int) ≤ 9
 ·
  cases kk with
  | true =>
   cases l with
   | true =>
    by_cases e1 : (n' : Int) = n
    ·
     cases vv with
     | true =>
      have hE : Hid (r = ((n'' : Int) == 0)) := by
       show _ = _
       rw [HR.out]
       by_cases h0 : n'' = 0
       ·
        rw [HC0.out h0, decide_eq_true (by omega), shape_leaf.2 ⟨by omega, h0⟩, h0]; rfl
       ·
        rw [Bool.eq_false_iff.2 (fun h => h0 (shape_leaf.1 h).2 : ¬ shapeN true n n' n'' = true), Bool.and_false, (beq_eq_false_iff_ne.2 (by omega) : ((n'' : Int) == 0) = false)]
      clear HR HV0 HC0
      go_enter Try.func52, Try.ntmps52
      go_wp2_with (first
       | (go_at_call 65; refine (cK _ hB0).mono ?_; rintro e w1 ⟨rfl, hb⟩; replace hX := hX.below hb; obtain ⟨⟨q0, q1, q2, q3⟩, -⟩ := id hX; replace hB0 := Below.tr hB0 hb; clear hb)
       | (go_at_call 66; refine (cV _ hB0).mono ?_; rintro e w1 ⟨rfl, hb⟩; replace hX := hX.below hb; clear q0 q1 q2 q3; obtain ⟨⟨q0, q1, q2, q3⟩, -⟩ := id hX; replace hB0 := Below.tr hB0 hb; clear hb))
      go_ret
      exact ⟨ret_bool hE.out.symm, hB0⟩
     | false =>
      have hE : Hid (r = false) := by show _ = _; rw [HR.out]; simp
      clear HR HV0 HC0
      go_enter Try.func52, Try.ntmps52
      go_wp2_with (first
       | (go_at_call 65; refine (cK _ hB0).mono ?_; rintro e w1 ⟨rfl, hb⟩; replace hX := hX.below hb; obtain ⟨⟨q0, q1, q2, q3⟩, -⟩ := id hX; replace hB0 := Below.tr hB0 hb; clear hb)
       | (go_at_call 66; refine (cV _ hB0).mono ?_; rintro e w1 ⟨rfl, hb⟩; replace hX := hX.below hb; clear q0 q1 q2 q3; obtain ⟨⟨q0, q1, q2, q3⟩, -⟩ := id hX; replace hB0 := Below.tr hB0 hb; clear hb))
      go_ret
      exact ⟨ret_bool hE.out.symm, hB0⟩
    ·
     have e1' : ((n' : Int) == n) = false := beq_eq_false_iff_ne.2 e1
     have hE : Hid (r = false) := by
      show _ = _
      rw [HR.out, Bool.eq_false_iff.2 (fun h => e1 (by have := (shape_leaf.1 h).1; omega) : ¬ shapeN true n n' n'' = true), Bool.and_false]
     clear HR HV0 HC0
     go_enter Try.func52, Try.ntmps52
     go_wp2_with (go_at_call 65; refine (cK _ hB0).mono ?_; rintro e w1 ⟨rfl, hb⟩; replace hX := hX.below hb; obtain ⟨⟨q0, q1, q2, q3⟩, -⟩ := id hX; replace hB0 := Below.tr hB0 hb; clear hb)
     go_ret
     exact ⟨ret_bool hE.out.symm, hB0⟩
   | false =>
    by_cases e1 : (n' : Int) = 0
    ·
     by_cases e2 : (0 : Int) < n
     ·
      by_cases e3 : (n'' : Int) = n + 1
      ·
       have hE : Hid (r = cc) := by
        show _ = _
        rw [HR.out, HV0.out (by omega), decide_eq_true (by omega), shape_inner.2 ⟨by omega, by omega, by omega⟩]; simp
       clear HR HV0 HC0
       go_enter Try.func52, Try.ntmps52
       go_wp2_with (first
        | (go_at_call 65; refine (cK _ hB0).mono ?_; rintro e w1 ⟨rfl, hb⟩; replace hX := hX.below hb; obtain ⟨⟨q0, q1, q2, q3⟩, -⟩ := id hX; replace hB0 := Below.tr hB0 hb; clear hb)
        | (go_at_call 67; refine (cC _ hB0).mono ?_; rintro e w1 ⟨rfl, hb⟩; replace hB0 := Below.tr hB0 hb; clear hb))
       go_ret
       exact ⟨ret_bool hE.out.symm, hB0⟩
      ·
       have e3' : ((n'' : Int) == n + 1) = false := beq_eq_false_iff_ne.2 e3
       have hE : Hid (r = false) := by
        show _ = _
        rw [HR.out, Bool.eq_false_iff.2 (fun h => e3 (by have := (shape_inner.1 h).2.2; omega) : ¬ shapeN false n n' n'' = true), Bool.and_false]
       clear HR HV0 HC0
       go_enter Try.func52, Try.ntmps52
       go_wp2_with (go_at_call 65; refine (cK _ hB0).mono ?_; rintro e w1 ⟨rfl, hb⟩; replace hX := hX.below hb; obtain ⟨⟨q0, q1, q2, q3⟩, -⟩ := id hX; replace hB0 := Below.tr hB0 hb; clear hb)
       go_ret
       exact ⟨ret_bool hE.out.symm, hB0⟩
     ·
      have hE : Hid (r = false) := by
       show _ = _
       rw [HR.out, Bool.eq_false_iff.2 (fun h => e2 (by have := (shape_inner.1 h).2.1; omega) : ¬ shapeN false n n' n'' = true), Bool.and_false]
      clear HR HV0 HC0
      go_enter Try.func52, Try.ntmps52
      go_wp2_with (go_at_call 65; refine (cK _ hB0).mono ?_; rintro e w1 ⟨rfl, hb⟩; replace hX := hX.below hb; obtain ⟨⟨q0, q1, q2, q3⟩, -⟩ := id hX; replace hB0 := Below.tr hB0 hb; clear hb)
      go_ret
      exact ⟨ret_bool hE.out.symm, hB0⟩
    ·
     have e1' : ((n' : Int) == 0) = false := beq_eq_false_iff_ne.2 e1
     have hE : Hid (r = false) := by
      show _ = _
      rw [HR.out, Bool.eq_false_iff.2 (fun h => e1 (by have := (shape_inner.1 h).1; omega) : ¬ shapeN false n n' n'' = true), Bool.and_false]
     clear HR HV0 HC0
     go_enter Try.func52, Try.ntmps52
     go_wp2_with (go_at_call 65; refine (cK _ hB0).mono ?_; rintro e w1 ⟨rfl, hb⟩; replace hX := hX.below hb; obtain ⟨⟨q0, q1, q2, q3⟩, -⟩ := id hX; replace hB0 := Below.tr hB0 hb; clear hb)
     go_ret
     exact ⟨ret_bool hE.out.symm, hB0⟩
  | false =>
   have hE : Hid (r = false) := by show _ = _; rw [HR.out]; simp
   clear HR HV0 HC0
   go_enter Try.func52, Try.ntmps52
   go_wp2_with (go_at_call 65; refine (cK _ hB0).mono ?_; rintro e w1 ⟨rfl, hb⟩; replace hX := hX.below hb; obtain ⟨⟨q0, q1, q2, q3⟩, -⟩ := id hX; replace hB0 := Below.tr hB0 hb; clear hb)
   go_ret
   exact ⟨ret_bool hE.out.symm, hB0⟩
 ·
  have hE : Hid (r = false) := by
   show _ = _
   rw [HR.out, decide_eq_false (p := n ≤ 9) (by omega)]; simp
  clear HR HV0 HC0
  go_enter Try.func52, Try.ntmps52
  go_wp2
  go_ret
  exact ⟨ret_bool hE.out.symm, hB0⟩
set_option maxHeartbeats 1000000 in
theorem nodeRight_any (l : Bool) (a a' a'' : Option Addr) (c c' c'' n n' n'' : Nat) (ks vs : List ByteArray) (cs : List Int) (root : Bool) (w : World) (hn : n = ks.length) (hn' : n' = vs.length) (hn'' : n'' = cs.length) (hK : IsS w a c ks) (hV : IsS w a' c' vs) (hC : IsI w a'' c'' cs) :
  Calls Try.prog 41 #[.agg #[.bool l, .slice a n c, .slice a' n' c', .slice a'' n'' c''], .bool root] w fun e w' => e = .returned (.bool (rightN l ks vs cs root)) ∧ Below w.heap.size w w' := by
 have hB0 : Below w.heap.size w (w.alloc (.cells #[.bool l, .slice a n c, .slice a' n' c', .slice a'' n'' c''] 62)) := (Below.refl _ _).alloc (Nat.le_refl _) _
 have hX := box4_new w (.bool l) (.slice a n c) (.slice a' n' c') (.slice a'' n'' c'') 62 rfl
 have cS := mayStand_any l a a' a'' c c' c'' n n' n'' ks vs cs _ hn hn' hn'' (hK.below hB0) (hV.below hB0) (hC.below hB0)
 have hm : n ≤ 9223372036854775807 := by rw [hn]; exact hK.size
 have HE : Hid (rightN l ks vs cs root = (standsN l ks vs cs && decide ((n : Int) ≤ 8) && (root || decide (4 ≤ (n : Int))))) := by
  show _ = _
  rw [hn]; unfold rightN
  congr 1
  ·
   congr 1
   rw [decide_eq_decide]; omega
  ·
   congr 1
   rw [decide_eq_decide]; omega
 clear hn hn' hn'' hK hV hC
 cases hs : standsN l ks vs cs with
 | true =>
  rw [hs] at cS HE
  by_cases h8 : (n : Int) ≤ 8
  ·
   cases root with
   | true =>
    go_enter Try.func41, Try.ntmps41
    go_wp2_with (go_at_call 52; refine cS.mono ?_; rintro e w1 ⟨rfl, hb⟩; obtain ⟨⟨q0, q1, q2, q3⟩, -⟩ := hX.below hb; have hB1 := Below.tr hB0 hb)
    go_ret
    exact ⟨ret_bool (by rw [HE.out]; simp [h8]), hB1⟩
   | false =>
    go_enter Try.func41, Try.ntmps41
    go_wp2_with (go_at_call 52; refine cS.mono ?_; rintro e w1 ⟨rfl, hb⟩; obtain ⟨⟨q0, q1, q2, q3⟩, -⟩ := hX.below hb; have hB1 := Below.tr hB0 hb)
    go_ret
    exact ⟨ret_bool (by rw [HE.out]; simp [h8]), hB1⟩
  ·
   go_enter Try.func41, Try.ntmps41
   go_wp2_with (go_at_call 52; refine cS.mono ?_; rintro e w1 ⟨rfl, hb⟩; obtain ⟨⟨q0, q1, q2, q3⟩, -⟩ := hX.below hb; have hB1 := Below.tr hB0 hb)
   go_ret
   exact ⟨ret_bool (by rw [HE.out, decide_eq_false (p := (n : Int) ≤ 8) (by omega)]; simp), hB1⟩
 | false =>
  rw [hs] at cS HE
  go_enter Try.func41, Try.ntmps41
  go_wp2_with (go_at_call 52; refine cS.mono ?_; rintro e w1 ⟨rfl, hb⟩; obtain ⟨⟨q0, q1, q2, q3⟩, -⟩ := hX.below hb; have hB1 := Below.tr hB0 hb)
  go_ret
  exact ⟨ret_bool (by rw [HE.out]; simp), hB1⟩
end Go.Proofs.Ytpepgpjiddophaa
namespace Go.Proofs.Ytpepgpjiddophaa.Plain
open Go.RowKit
set_option linter.unusedVariables false
def leafSt (s : ByteArray) : Nat → Int ⊕ (Int × List ByteArray × List ByteArray)
 | 0 => .inr (1, [], [])
 | j + 1 => match leafSt s j with
  | .inl e => .inl e
  | .inr (p, ks, vs) => if cutE s p = 0 then (if cutE s (cutT s p) = 0 then .inr (cutT s (cutT s p), ks ++ [cutS s p], vs ++ [cutS s (cutT s p)]) else .inl (cutE s (cutT s p))) else .inl (cutE s p)
def innSt (s : ByteArray) : Nat → Int ⊕ (Int × List ByteArray × List Int)
 | 0 => .inr (1, [], [])
 | j + 1 => match innSt s j with
  | .inl e => .inl e
  | .inr (p, ks, cs) => if getE s p 2 = 0 then (if cutE s (getT s p 2) = 0 then .inr (cutT s (getT s p 2), ks ++ [cutS s (getT s p 2)], cs ++ [getR s p 2]) else .inl (cutE s (getT s p 2))) else .inl (getE s p 2)
def leafR (s : ByteArray) : Int ⊕ (Bool × List ByteArray × List ByteArray × List Int) :=
 if getE s 0 1 = 0 then (match leafSt s (getR s 0 1).toNat with
  | .inl e => .inl e
  | .inr (p, ks, vs) => if p = s.size ∧ rightN true ks vs [] true = true then .inr (true, ks, vs, []) else .inl 4) else .inl (getE s 0 1)
def innR (s : ByteArray) : Int ⊕ (Bool × List ByteArray × List ByteArray × List Int) :=
 if getE s 0 1 = 0 then (match innSt s (getR s 0 1).toNat with
  | .inl e => .inl e
  | .inr (p, ks, cs) => if getE s p 2 = 0 then (if getT s p 2 = s.size ∧ rightN false ks [] (cs ++ [getR s p 2]) true = true then .inr (false, ks, [], cs ++ [getR s p 2]) else .inl 4) else .inl (getE s p 2)) else .inl (getE s 0 1)
def nodeR (kind : Int) (s : ByteArray) : Int ⊕ (Bool × List ByteArray × List ByteArray × List Int) := if kind = 1 then leafR s else if kind = 2 then innR s else .inl 81
theorem get_num {s : ByteArray} {p k : Nat} (h : getE s p k = 0) : getR s p k = getV s p k ∧ getT s p k = ((p + k : Nat) : Int) ∧ p + k ≤ s.size ∧ 1 ≤ k ∧ k ≤ 6 := by
 obtain ⟨h1, h2, h3, h4⟩ := getE_ok h
 refine ⟨?_, ?_, by omega, by omega, by omega⟩
 ·
  unfold getR; rw [if_pos h]; simp
 ·
  unfold getT; rw [if_pos h]; omega
end Go.Proofs.Ytpepgpjiddophaa.Plain
namespace Go.Proofs.Ytpepgpjiddophaa
open Go.RowKit Plain Anylast
set_option linter.unusedVariables false
theorem rd_leafSt (s : ByteArray) (j : Nat) : match leafSt s j with
  | .inl e => (rdLeaf s 1 0 j).e = e ∧ e ≠ 0
  | .inr (p, ks, vs) => rdLeaf s 1 0 j = ⟨p, 0, ks, vs⟩ := by
 induction j with
 | zero => rfl
 | succ j ih =>
  rw [leafSt]
  cases h : leafSt s j with
  | inl e =>
   rw [h] at ih
   obtain ⟨h1, h2⟩ := ih
   simp only [rdLeaf, h1]
   refine ⟨?_, h2⟩
   unfold rdE
   rw [if_neg h2, if_neg h2]
  | inr x =>
   obtain ⟨p, ks, vs⟩ := x
   rw [h] at ih
   simp only at ih ⊢
   simp only [rdLeaf, ih]
   unfold rdE rdP rdS
   simp only [if_true]
   by_cases c1 : cutE s p = 0
   ·
    simp only [c1, if_true]
    by_cases c2 : cutE s (cutT s p) = 0
    ·
     simp only [c2, if_true]
    ·
     rw [if_neg c2]
     exact ⟨rfl, c2⟩
   ·
    rw [if_neg c1]
    simp only [if_neg c1]
    exact ⟨trivial, c1⟩
theorem rd_innSt (s : ByteArray) (j : Nat) : match innSt s j with
  | .inl e => (rdInn s 1 0 j).e = e ∧ e ≠ 0
  | .inr (p, ks, cs) => rdInn s 1 0 j = ⟨getT s p 2, getE s p 2, ks, cs ++ [getR s p 2]⟩ := by
 induction j with
 | zero => rfl
 | succ j ih =>
  rw [innSt]
  cases h : innSt s j with
  | inl e =>
   rw [h] at ih
   obtain ⟨h1, h2⟩ := ih
   simp only [rdInn, h1]
   refine ⟨?_, h2⟩
   unfold rnE rdE
   rw [if_neg h2, if_neg h2]
  | inr x =>
   obtain ⟨p, ks, cs⟩ := x
   rw [h] at ih
   simp only at ih ⊢
   simp only [rdInn, ih]
   by_cases c1 : getE s p 2 = 0
   ·
    rw [if_pos c1]
    by_cases c2 : cutE s (getT s p 2) = 0
    ·
     rw [if_pos c2]
     simp only [rdE, rdP, rdS, rnE, rnP, rnR, c1, c2, if_true]
    ·
     rw [if_neg c2]
     simp only [rdE, rdP, rnE, c1, if_true, if_neg c2]
     exact ⟨trivial, c2⟩
   ·
    rw [if_neg c1]
    simp only [rdE, rdP, rnE, if_neg c1]
    exact ⟨trivial, c1⟩
theorem rn_one {s : ByteArray} (h : getE s 0 1 = 0) : rnP s 0 0 1 = 1 ∧ rnE s 0 0 1 = 0 ∧ rnR s 0 0 1 = getR s 0 1 := by
 unfold rnP rnE rnR
 rw [if_pos rfl, if_pos rfl, if_pos rfl, h]
 have h' : getE s ((0 : Nat) : Int) ((1 : Nat) : Int) = 0 := h
 exact ⟨(get_num h').2.1, rfl, rfl⟩
theorem rn_bad {s : ByteArray} (h : ¬ getE s 0 1 = 0) : rnE s 0 0 1 = getE s 0 1 ∧ rnR s 0 0 1 = 0 := by
 unfold rnE rnR
 rw [if_pos rfl, if_pos rfl]
 exact ⟨rfl, by unfold getR; rw [if_neg h]⟩
theorem rn_count (s : ByteArray) : ∃ c : Nat, rnR s 0 0 1 = c ∧ c ≤ 255 := by
 by_cases h : getE s 0 1 = 0
 ·
  rw [(rn_one h).2.2]
  have h' : getE s ((0 : Nat) : Int) ((1 : Nat) : Int) = 0 := h
  have a : getR s 0 1 = getV s 0 1 := (get_num h').1
  have b := getV_bd s 0 1
  have c : pw 1 = 256 := by decide
  exact ⟨(getR s 0 1).toNat, by omega, by omega⟩
 ·
  rw [(rn_bad h).2]
  exact ⟨0, rfl, by omega⟩
def endL (s : ByteArray) : RdL := rdLeaf s (rnP s 0 0 1) (rnE s 0 0 1) (rnR s 0 0 1).toNat
def endI (s : ByteArray) : RdI := rdInn s (rnP s 0 0 1) (rnE s 0 0 1) (rnR s 0 0 1).toNat
theorem leafR_end (s : ByteArray) : leafR s = if (endL s).e = 0 then (if (endL s).p = s.size ∧ rightN true (endL s).ks (endL s).vs [] true = true then .inr (true, (endL s).ks, (endL s).vs, []) else .inl 4) else .inl (endL s).e := by
 by_cases h : getE s 0 1 = 0
 ·
  obtain ⟨e1, e2, e3⟩ := rn_one h
  have hE : endL s = rdLeaf s 1 0 (getR s 0 1).toNat := by unfold endL; rw [e1, e2, e3]
  have k := rd_leafSt s (getR s 0 1).toNat
  rw [← hE] at k
  unfold leafR
  rw [if_pos h]
  cases hl : leafSt s (getR s 0 1).toNat with
  | inl e =>
   rw [hl] at k
   obtain ⟨k1, k2⟩ := k
   rw [k1, if_neg k2]
  | inr x =>
   obtain ⟨p, ks, vs⟩ := x
   rw [hl] at k
   simp only at k
   rw [k]
   simp only [if_true]
 ·
  obtain ⟨e1, e2⟩ := rn_bad h
  have hE : (endL s).e = getE s 0 1 := by unfold endL; rw [e2]; exact e1
  unfold leafR
  rw [if_neg h, hE, if_neg h]
theorem innR_end (s : ByteArray) : innR s = if (endI s).e = 0 then (if (endI s).p = s.size ∧ rightN false (endI s).ks [] (endI s).cs true = true then .inr (false, (endI s).ks, [], (endI s).cs) else .inl 4) else .inl (endI s).e := by
 by_cases h : getE s 0 1 = 0
 ·
  obtain ⟨e1, e2, e3⟩ := rn_one h
  have hE : endI s = rdInn s 1 0 (getR s 0 1).toNat := by unfold endI; rw [e1, e2, e3]
  have k := rd_innSt s (getR s 0 1).toNat
  rw [← hE] at k
  unfold innR
  rw [if_pos h]
  cases hl : innSt s (getR s 0 1).toNat with
  | inl e =>
   rw [hl] at k
   obtain ⟨k1, k2⟩ := k
   rw [k1, if_neg k2]
  | inr x =>
   obtain ⟨p, ks, vs⟩ := x
   rw [hl] at k
   simp only at k
   rw [k]
 ·
  obtain ⟨e1, e2⟩ := rn_bad h
  have hE : (endI s).e = getE s 0 1 := by
   unfold endI
   rw [e2]
   show rnE s _ (rnE s 0 0 1) 2 = _
   rw [e1]
   unfold rnE
   rw [if_neg h]
  unfold innR
  rw [if_neg h, hE, if_neg h]
set_option maxRecDepth 20000 in
set_option maxHeartbeats 1000000 in
theorem rnodeL_any (r : Nat) (s : ByteArray) (w : World) (b : Box3 w r (.string s) (.int .i64 0) (.int .i64 0)) (hs : s.size ≤ maxLen) :
  Calls Try.prog 51 #[.pointer (some ⟨r, 0, none⟩), .int .i64 1] w fun x w' => ∃ n a d n' a' d' n'' a'' d'', x = .returned (.agg #[.bool true, .slice a n d, .slice a' n' d', .slice a'' n'' d'']) ∧ n = (endL s).ks.length ∧ n' = (endL s).vs.length ∧ n'' = ([] : List Int).length ∧
   IsS w' a d (endL s).ks ∧ IsS w' a' d' (endL s).vs ∧ IsI w' a'' d'' [] ∧ From w.heap.size a ∧ From w.heap.size a' ∧ From w.heap.size a'' ∧ Box3 w' r (.string s) (.int .i64 (endL s).p) (.int .i64 (endL s).e) ∧ Turns (fun k => k = r) w w' := by
 have hrw : r < w.heap.size := b.lt
 obtain ⟨W0, hW0⟩ : ∃ W0, W0 = w.alloc (.cells #[.bool false, .slice none 0 0, .slice none 0 0, .slice none 0 0] 62) := ⟨_, rfl⟩
 have b00 : Box4 W0 w.heap.size (.bool false) (.slice none 0 0) (.slice none 0 0) (.slice none 0 0) := by rw [hW0]; exact box4_new _ _ _ _ _ _ rfl
 have hB00 : Below w.heap.size w W0 := by rw [hW0]; exact (Below.refl _ _).alloc (Nat.le_refl _) _
 obtain ⟨V1, b1, t1, hsz, c1⟩ := rnumber_any r s 0 0 1 W0 (b.below hB00) hs
 obtain ⟨c, hc, hc2⟩ := rn_count s
 have hE : endL s = rdLeaf s (rnP s 0 0 1) (rnE s 0 0 1) c := by unfold endL; rw [hc]; rfl
 rw [hc] at c1
 have c2 := rleaf_any r c s (rnP s 0 0 1) (rnE s 0 0 1) V1 b1 hs hc2
 rw [← hE] at c2
 obtain ⟨l1, l2⟩ := rdLeaf_len s (rnP s 0 0 1) (rnE s 0 0 1) c
 rw [← hE] at l1 l2
 have b01 := b00.turns t1 (by omega)
 have hwV : w.heap.size < V1.heap.size := b01.lt
 have T1 : Turns (fun k => k = r ∨ w.heap.size ≤ k) w V1 := (Turns.of_below hB00).trans (t1.mono fun k hk => .inl hk)
 have L1 : Hid ((endL s).ks.length = c) := l1
 have L2 : Hid ((endL s).vs.length = c) := l2
 clear hE hc b b1 b00 hsz t1 l1 l2
 generalize endL s = R at *
 go_enter Try.func51, Try.ntmps51
 go_wp2_with (first
  | (go_at_call 62; rw [← hW0]; refine c1.mono ?_; rintro y w1 ⟨rfl, hw1⟩; have hw1' := hw1.symm; subst hw1'; clear hw1)
  | (go_at_call 63; refine c2.mono ?_; rintro y w2 ⟨a, d, a', d', rfl, i1, i2, j1, j2, b2, t2⟩; have I1 : Hid (IsS w2 a d R.ks) := i1; have I2 : Hid (IsS w2 a' d' R.vs) := i2; have B2 : Hid (Box3 w2 r (.string s) (.int .i64 R.p) (.int .i64 R.e)) := b2; have T2 : Hid (Turns (fun k => k = r) V1 w2) := t2; have J1 : Hid (From V1.heap.size a) := j1; have J2 : Hid (From V1.heap.size a') := j2; obtain ⟨⟨r0, r1, r2, r3⟩, g0, g1, g2, g3⟩ := b01.turns t2 (by omega); clear i1 i2 b2 t2 j1 j2))
 have T4 := turns_put4 w2 w.heap.size (.bool true) (.slice a c d) (.slice a' c d') (.slice none 0 0)
 refine bodyPost_ret (v := .agg #[.bool true, .slice a c d, .slice a' c d', .slice none 0 0]) (by simp [results, Try.results51, go_sem, r0, r1, r2, r3]) rfl ⟨c, a, d, c, a', d', 0, none, 0, rfl, L1.out.symm, L2.out.symm, rfl, I1.out.turns T4 (fun x hx e => by have := J1.out x hx; omega), I2.out.turns T4 (fun x hx e => by have := J2.out x hx; omega), isI_nil _, J1.out.mono (by omega), J2.out.mono (by omega), from_nil _, B2.out.turns T4 (by omega), ?_⟩
 exact ((T1.trans (T2.out.mono fun k hk => .inl hk)).trans (T4.mono fun k hk => .inr (by omega))).mono' fun k hk hh => by rcases hh with h | h <;> omega
set_option maxRecDepth 20000 in
set_option maxHeartbeats 1000000 in
theorem rnodeI_any (r : Nat) (s : ByteArray) (w : World) (b : Box3 w r (.string s) (.int .i64 0) (.int .i64 0)) (hs : s.size ≤ maxLen) :
  Calls Try.prog 51 #[.pointer (some ⟨r, 0, none⟩), .int .i64 2] w fun x w' => ∃ n a d n' a' d' n'' a'' d'', x = .returned (.agg #[.bool false, .slice a n d, .slice a' n' d', .slice a'' n'' d'']) ∧ n = (endI s).ks.length ∧ n' = ([] : List ByteArray).length ∧ n'' = (endI s).cs.length ∧
   IsS w' a d (endI s).ks ∧ IsS w' a' d' [] ∧ IsI w' a'' d'' (endI s).cs ∧ From w.heap.size a ∧ From w.heap.size a' ∧ From w.heap.size a'' ∧ Box3 w' r (.string s) (.int .i64 (endI s).p) (.int .i64 (endI s).e) ∧ Turns (fun k => k = r) w w' := by
 have hrw : r < w.heap.size := b.lt
 obtain ⟨W0, hW0⟩ : ∃ W0, W0 = w.alloc (.cells #[.bool false, .slice none 0 0, .slice none 0 0, .slice none 0 0] 62) := ⟨_, rfl⟩
 have b00 : Box4 W0 w.heap.size (.bool false) (.slice none 0 0) (.slice none 0 0) (.slice none 0 0) := by rw [hW0]; exact box4_new _ _ _ _ _ _ rfl
 have hB00 : Below w.heap.size w W0 := by rw [hW0]; exact (Below.refl _ _).alloc (Nat.le_refl _) _
 obtain ⟨V1, b1, t1, hsz, c1⟩ := rnumber_any r s 0 0 1 W0 (b.below hB00) hs
 obtain ⟨c, hc, hc2⟩ := rn_count s
 have hE : endI s = rdInn s (rnP s 0 0 1) (rnE s 0 0 1) c := by unfold endI; rw [hc]; rfl
 rw [hc] at c1
 have c2 := rinner_any r c s (rnP s 0 0 1) (rnE s 0 0 1) V1 b1 hs hc2
 rw [← hE] at c2
 obtain ⟨l1, l2⟩ := rdInn_len s (rnP s 0 0 1) (rnE s 0 0 1) c
 rw [← hE] at l1 l2
 have b01 := b00.turns t1 (by omega)
 have hwV : w.heap.size < V1.heap.size := b01.lt
 have T1 : Turns (fun k => k = r ∨ w.heap.size ≤ k) w V1 := (Turns.of_below hB00).trans (t1.mono fun k hk => .inl hk)
 have L1 : Hid ((endI s).ks.length = c) := l1
 have L2 : Hid ((endI s).cs.length = c + 1) := l2
 clear hE hc b b1 b00 hsz t1 l1 l2
 generalize endI s = R at *
 go_enter Try.func51, Try.ntmps51
 go_wp2_with (first
  | (go_at_call 62; rw [← hW0]; refine c1.mono ?_; rintro y w1 ⟨rfl, hw1⟩; have hw1' := hw1.symm; subst hw1'; clear hw1)
  | (go_at_call 64; refine c2.mono ?_; rintro y w2 ⟨a, d, a'', d'', rfl, i1, i2, j1, j2, b2, t2⟩; have I1 : Hid (IsS w2 a d R.ks) := i1; have I2 : Hid (IsI w2 a'' d'' R.cs) := i2; have B2 : Hid (Box3 w2 r (.string s) (.int .i64 R.p) (.int .i64 R.e)) := b2; have T2 : Hid (Turns (fun k => k = r) V1 w2) := t2; have J1 : Hid (From V1.heap.size a) := j1; have J2 : Hid (From V1.heap.size a'') := j2; obtain ⟨⟨r0, r1, r2, r3⟩, g0, g1, g2, g3⟩ := b01.turns t2 (by omega); clear i1 i2 b2 t2 j1 j2))
 have T4 := turns_put4 w2 w.heap.size (.bool false) (.slice a c d) (.slice none 0 0) (.slice a'' (c + 1) d'')
 refine bodyPost_ret (v := .agg #[.bool false, .slice a c d, .slice none 0 0, .slice a'' (c + 1) d'']) (by simp [results, Try.results51, go_sem, r0, r1, r2, r3]) rfl ⟨c, a, d, 0, none, 0, c + 1, a'', d'', rfl, L1.out.symm, rfl, L2.out.symm, I1.out.turns T4 (fun x hx e => by have := J1.out x hx; omega), isS_nil _, I2.out.turns T4 (fun x hx e => by have := J2.out x hx; omega), J1.out.mono (by omega), from_nil _, J2.out.mono (by omega), B2.out.turns T4 (by omega), ?_⟩
 exact ((T1.trans (T2.out.mono fun k hk => .inl hk)).trans (T4.mono fun k hk => .inr (by omega))).mono' fun k hk hh => by rcases hh with h | h <;> omega
def gE (kind : Int) (s : ByteArray) : Int := match nodeR kind s with | .inl e => e | .inr _ => 0
def gN (kind : Int) (s : ByteArray) : Bool × List ByteArray × List ByteArray × List Int := match nodeR kind s with | .inl _ => (false, [], [], []) | .inr x => x
theorem g_inl {kind e : Int} {s : ByteArray} (h : nodeR kind s = .inl e) : gE kind s = e ∧ gN kind s = (false, [], [], []) := by unfold gE gN; rw [h]; exact ⟨rfl, rfl⟩
theorem g_inr {kind : Int} {s : ByteArray} {x : Bool × List ByteArray × List ByteArray × List Int} (h : nodeR kind s = .inr x) : gE kind s = 0 ∧ gN kind s = x := by unfold gE gN; rw [h]; exact ⟨rfl, rfl⟩
def Answers (w : World) (x : Ending) (w' : World) (l : Bool) (ks vs : List ByteArray) (cs : List Int) (E : Int) : Prop :=
 ∃ n a d n' a' d' n'' a'' d'', x = .returned (.tuple #[.agg #[.bool l, .slice a n d, .slice a' n' d', .slice a'' n'' d''], .int .i64 E]) ∧ n = ks.length ∧ n' = vs.length ∧ n'' = cs.length ∧
  IsS w' a d ks ∧ IsS w' a' d' vs ∧ IsI w' a'' d'' cs ∧ From w.heap.size a ∧ From w.heap.size a' ∧ From w.heap.size a'' ∧ Below w.heap.size w w'
theorem answers_none {w w' : World} {E : Int} (hb : Below w.heap.size w w') : Answers w (.returned (.tuple #[.agg #[.bool false, .slice none 0 0, .slice none 0 0, .slice none 0 0], .int .i64 E])) w' false [] [] [] E :=
 ⟨0, none, 0, 0, none, 0, 0, none, 0, rfl, rfl, rfl, rfl, isS_nil _, isS_nil _, isI_nil _, from_nil _, from_nil _, from_nil _, hb⟩
set_option maxRecDepth 20000 in
set_option maxHeartbeats 4000000 in
theorem nodeGet_core (kind : Int) (s : ByteArray) (w : World) (hs : s.size ≤ maxLen) (hk : kind = 1 ∨ kind = 2) (l : Bool) (ks vs : List ByteArray) (cs : List Int) (P E : Int)
  (cN : ∀ V r, Box3 V r (.string s) (.int .i64 0) (.int .i64 0) → Calls Try.prog 51 #[.pointer (some ⟨r, 0, none⟩), .int .i64 kind] V fun x w' => ∃ n a d n' a' d' n'' a'' d'', x = .returned (.agg #[.bool l, .slice a n d, .slice a' n' d', .slice a'' n'' d'']) ∧ n = ks.length ∧ n' = vs.length ∧ n'' = cs.length ∧
   IsS w' a d ks ∧ IsS w' a' d' vs ∧ IsI w' a'' d'' cs ∧ From V.heap.size a ∧ From V.heap.size a' ∧ From V.heap.size a'' ∧ Box3 w' r (.string s) (.int .i64 P) (.int .i64 E) ∧ Turns (fun k => k = r) V w') :
  Calls Try.prog 40 #[.int .i64 kind, .string s] w fun x w' => if E = 0 then (if P = s.size ∧ rightN l ks vs cs true = true then Answers w x w' l ks vs cs 0 else Answers w x w' false [] [] [] 4) else Answers w x w' false [] [] [] E := by
 obtain ⟨W, hW⟩ : ∃ W, W = (w.alloc (.cells #[.bool false, .slice none 0 0, .slice none 0 0, .slice none 0 0] 62)).alloc (.cells #[.string s, .int .i64 0, .int .i64 0] 98) := ⟨_, rfl⟩
 have b0 : Box4 W w.heap.size (.bool false) (.slice none 0 0) (.slice none 0 0) (.slice none 0 0) := by rw [hW]; exact (box4_new _ _ _ _ _ _ rfl).alloc _
 have bR : Box3 W (w.heap.size + 1) (.string s) (.int .i64 0) (.int .i64 0) := by
  rw [hW]
  have := box3_new (w.alloc (.cells #[.bool false, .slice none 0 0, .slice none 0 0, .slice none 0 0] 62)) (.string s) (.int .i64 0) (.int .i64 0) 98
  simpa using this
 have hB0 : Below w.heap.size w W := by rw [hW]; exact ((Below.refl _ _).alloc (Nat.le_refl _) _).alloc (by simp) _
 have hz : w.heap.size + 2 ≤ W.heap.size := by rw [hW]; simp
 replace cN := cN W (w.heap.size + 1) bR
 have hm : s.size ≤ 9223372036854775807 := hs
 clear bR hs
 have hle : w.heap.size ≤ w.heap.size := Nat.le_refl _
 by_cases hE : E = 0
 ·
  subst hE
  simp only [if_true]
  by_cases hP : P = s.size
  ·
   subst hP
   have hP' : ((s.size : Int) != s.size) = false := by simp
   have cR : ∀ V a d a' d' a'' d'', IsS V a d ks → IsS V a' d' vs → IsI V a'' d'' cs → Calls Try.prog 41 #[.agg #[.bool l, .slice a ks.length d, .slice a' vs.length d', .slice a'' cs.length d''], .bool true] V fun e w' => e = .returned (.bool (rightN l ks vs cs true)) ∧ Below V.heap.size V w' := fun V a d a' d' a'' d'' h1 h2 h3 => nodeRight_any _ _ _ _ _ _ _ _ _ _ _ _ _ true _ rfl rfl rfl h1 h2 h3
   cases hr : rightN l ks vs cs true with
   | true =>
    rw [hr] at cR
    simp only [and_self, if_true]
    clear hr
    rcases hk with rfl | rfl
    ·
     go_enter Try.func40, Try.ntmps40
     go_wp2_with (first
      | (go_at_call 51; rw [← hW]; refine cN.mono ?_; rintro y w2 ⟨n, a, d, n', a', d', n'', a'', d'', rfl, rfl, rfl, rfl, i1, i2, i3, j1, j2, j3, b2, t2⟩; have b02 := b0.turns t2 (by omega); obtain ⟨⟨p0, p1, p2⟩, -⟩ := id b2; have p1' := cell_alloc p1; have p2' := cell_alloc p2; have zz := fun o => b02.alloc o; have z0 := fun o => (zz o).1.1; have z1 := fun o => (zz o).1.2.1; have z2 := fun o => (zz o).1.2.2.1; have z3 := fun o => (zz o).1.2.2.2; have y0 := fun o => (zz o).2.1; have y1 := fun o => (zz o).2.2.1; have y2 := fun o => (zz o).2.2.2.1; have y3 := fun o => (zz o).2.2.2.2; have B2 : Hid (Below w.heap.size w w2) := Below.turns hB0 t2 (fun k hk => by omega); have I1 : Hid (IsS w2 a d ks) := i1; have I2 : Hid (IsS w2 a' d' vs) := i2; have I3 : Hid (IsI w2 a'' d'' cs) := i3; have J1 : Hid (From W.heap.size a) := j1; have J2 : Hid (From W.heap.size a') := j2; have J3 : Hid (From W.heap.size a'') := j3; have hz2 : Hid (W.heap.size ≤ w2.heap.size) := t2.size; clear i1 i2 i3 j1 j2 j3 b2 t2 p0 p1 p2 zz b02)
      | (go_at_call 41; have hA2 : Below w2.heap.size w2 (w2.alloc (.cells #[.bool l, .slice a ks.length d, .slice a' vs.length d', .slice a'' cs.length d''] 62)) := (Below.refl _ _).alloc (Nat.le_refl _) _; refine (cR _ a d a' d' a'' d'' (I1.out.below hA2) (I2.out.below hA2) (I3.out.below hA2)).mono ?_; rintro y w3 ⟨rfl, hb⟩; have b7 := (box4_new w2 (.bool l) (.slice a ks.length d) (.slice a' vs.length d') (.slice a'' cs.length d'') 62 rfl).below hb; have bO := (Box4.below (h := w.heap.size) (v0 := .bool false) (v1 := .slice none 0 0) (v2 := .slice none 0 0) (v3 := .slice none 0 0) ⟨⟨z0 _, z1 _, z2 _, z3 _⟩, y0 _, y1 _, y2 _, y3 _⟩ hb); have B3 : Hid (Below w.heap.size w w3) := Below.tr (Below.tr B2.out hA2) hb; replace I1 : Hid (IsS w3 a d ks) := (I1.out.below hA2).below hb; replace I2 : Hid (IsS w3 a' d' vs) := (I2.out.below hA2).below hb; replace I3 : Hid (IsI w3 a'' d'' cs) := (I3.out.below hA2).below hb; clear hb hA2 z0 z1 z2 z3 y0 y1 y2 y3 p1' p2'; obtain ⟨⟨m0, m1, m2, m3⟩, -⟩ := b7; obtain ⟨⟨r0, r1, r2, r3⟩, g0, g1, g2, g3⟩ := bO))
     have T4 := turns_put4 w3 w.heap.size (.bool l) (.slice a ks.length d) (.slice a' vs.length d') (.slice a'' cs.length d'')
     refine bodyPost_ret (v := .tuple #[.agg #[.bool l, .slice a ks.length d, .slice a' vs.length d', .slice a'' cs.length d''], .int .i64 0]) (by simp [results, Try.results40, go_sem, r0, r1, r2, r3]) rfl ⟨_, a, d, _, a', d', _, a'', d'', rfl, rfl, rfl, rfl, I1.out.turns T4 (fun x hx e => by have := J1.out x hx; omega), I2.out.turns T4 (fun x hx e => by have := J2.out x hx; omega), I3.out.turns T4 (fun x hx e => by have := J3.out x hx; omega), J1.out.mono (by omega), J2.out.mono (by omega), J3.out.mono (by omega), Below.turns B3.out T4 (fun k hk => by omega)⟩
    ·
     go_enter Try.func40, Try.ntmps40
     go_wp2_with (first
      | (go_at_call 51; rw [← hW]; refine cN.mono ?_; rintro y w2 ⟨n, a, d, n', a', d', n'', a'', d'', rfl, rfl, rfl, rfl, i1, i2, i3, j1, j2, j3, b2, t2⟩; have b02 := b0.turns t2 (by omega); obtain ⟨⟨p0, p1, p2⟩, -⟩ := id b2; have p1' := cell_alloc p1; have p2' := cell_alloc p2; have zz := fun o => b02.alloc o; have z0 := fun o => (zz o).1.1; have z1 := fun o => (zz o).1.2.1; have z2 := fun o => (zz o).1.2.2.1; have z3 := fun o => (zz o).1.2.2.2; have y0 := fun o => (zz o).2.1; have y1 := fun o => (zz o).2.2.1; have y2 := fun o => (zz o).2.2.2.1; have y3 := fun o => (zz o).2.2.2.2; have B2 : Hid (Below w.heap.size w w2) := Below.turns hB0 t2 (fun k hk => by omega); have I1 : Hid (IsS w2 a d ks) := i1; have I2 : Hid (IsS w2 a' d' vs) := i2; have I3 : Hid (IsI w2 a'' d'' cs) := i3; have J1 : Hid (From W.heap.size a) := j1; have J2 : Hid (From W.heap.size a') := j2; have J3 : Hid (From W.heap.size a'') := j3; have hz2 : Hid (W.heap.size ≤ w2.heap.size) := t2.size; clear i1 i2 i3 j1 j2 j3 b2 t2 p0 p1 p2 zz b02)
      | (go_at_call 41; have hA2 : Below w2.heap.size w2 (w2.alloc (.cells #[.bool l, .slice a ks.length d, .slice a' vs.length d', .slice a'' cs.length d''] 62)) := (Below.refl _ _).alloc (Nat.le_refl _) _; refine (cR _ a d a' d' a'' d'' (I1.out.below hA2) (I2.out.below hA2) (I3.out.below hA2)).mono ?_; rintro y w3 ⟨rfl, hb⟩; have b7 := (box4_new w2 (.bool l) (.slice a ks.length d) (.slice a' vs.length d') (.slice a'' cs.length d'') 62 rfl).below hb; have bO := (Box4.below (h := w.heap.size) (v0 := .bool false) (v1 := .slice none 0 0) (v2 := .slice none 0 0) (v3 := .slice none 0 0) ⟨⟨z0 _, z1 _, z2 _, z3 _⟩, y0 _, y1 _, y2 _, y3 _⟩ hb); have B3 : Hid (Below w.heap.size w w3) := Below.tr (Below.tr B2.out hA2) hb; replace I1 : Hid (IsS w3 a d ks) := (I1.out.below hA2).below hb; replace I2 : Hid (IsS w3 a' d' vs) := (I2.out.below hA2).below hb; replace I3 : Hid (IsI w3 a'' d'' cs) := (I3.out.below hA2).below hb; clear hb hA2 z0 z1 z2 z3 y0 y1 y2 y3 p1' p2'; obtain ⟨⟨m0, m1, m2, m3⟩, -⟩ := b7; obtain ⟨⟨r0, r1, r2, r3⟩, g0, g1, g2, g3⟩ := bO))
     have T4 := turns_put4 w3 w.heap.size (.bool l) (.slice a ks.length d) (.slice a' vs.length d') (.slice a'' cs.length d'')
     refine bodyPost_ret (v := .tuple #[.agg #[.bool l, .slice a ks.length d, .slice a' vs.length d', .slice a'' cs.length d''], .int .i64 0]) (by simp [results, Try.results40, go_sem, r0, r1, r2, r3]) rfl ⟨_, a, d, _, a', d', _, a'', d'', rfl, rfl, rfl, rfl, I1.out.turns T4 (fun x hx e => by have := J1.out x hx; omega), I2.out.turns T4 (fun x hx e => by have := J2.out x hx; omega), I3.out.turns T4 (fun x hx e => by have := J3.out x hx; omega), J1.out.mono (by omega), J2.out.mono (by omega), J3.out.mono (by omega), Below.turns B3.out T4 (fun k hk => by omega)⟩
   | false =>
    rw [hr] at cR
    simp only [and_false, if_false, Bool.false_eq_true]
    clear hr
    rcases hk with rfl | rfl
    ·
     go_enter Try.func40, Try.ntmps40
     go_wp2_with (first
      | (go_at_call 51; rw [← hW]; refine cN.mono ?_; rintro y w2 ⟨n, a, d, n', a', d', n'', a'', d'', rfl, rfl, rfl, rfl, i1, i2, i3, j1, j2, j3, b2, t2⟩; have b02 := b0.turns t2 (by omega); obtain ⟨⟨p0, p1, p2⟩, -⟩ := id b2; have p1' := cell_alloc p1; have p2' := cell_alloc p2; have zz := fun o => b02.alloc o; have z0 := fun o => (zz o).1.1; have z1 := fun o => (zz o).1.2.1; have z2 := fun o => (zz o).1.2.2.1; have z3 := fun o => (zz o).1.2.2.2; have y0 := fun o => (zz o).2.1; have y1 := fun o => (zz o).2.2.1; have y2 := fun o => (zz o).2.2.2.1; have y3 := fun o => (zz o).2.2.2.2; have B2 : Hid (Below w.heap.size w w2) := Below.turns hB0 t2 (fun k hk => by omega); have I1 : Hid (IsS w2 a d ks) := i1; have I2 : Hid (IsS w2 a' d' vs) := i2; have I3 : Hid (IsI w2 a'' d'' cs) := i3; have J1 : Hid (From W.heap.size a) := j1; have J2 : Hid (From W.heap.size a') := j2; have J3 : Hid (From W.heap.size a'') := j3; have hz2 : Hid (W.heap.size ≤ w2.heap.size) := t2.size; clear i1 i2 i3 j1 j2 j3 b2 t2 p0 p1 p2 zz b02)
      | (go_at_call 41; have hA2 : Below w2.heap.size w2 (w2.alloc (.cells #[.bool l, .slice a ks.length d, .slice a' vs.length d', .slice a'' cs.length d''] 62)) := (Below.refl _ _).alloc (Nat.le_refl _) _; refine (cR _ a d a' d' a'' d'' (I1.out.below hA2) (I2.out.below hA2) (I3.out.below hA2)).mono ?_; rintro y w3 ⟨rfl, hb⟩; have b7 := (box4_new w2 (.bool l) (.slice a ks.length d) (.slice a' vs.length d') (.slice a'' cs.length d'') 62 rfl).below hb; have bO := (Box4.below (h := w.heap.size) (v0 := .bool false) (v1 := .slice none 0 0) (v2 := .slice none 0 0) (v3 := .slice none 0 0) ⟨⟨z0 _, z1 _, z2 _, z3 _⟩, y0 _, y1 _, y2 _, y3 _⟩ hb); have B3 : Hid (Below w.heap.size w w3) := Below.tr (Below.tr B2.out hA2) hb; replace I1 : Hid (IsS w3 a d ks) := (I1.out.below hA2).below hb; replace I2 : Hid (IsS w3 a' d' vs) := (I2.out.below hA2).below hb; replace I3 : Hid (IsI w3 a'' d'' cs) := (I3.out.below hA2).below hb; clear hb hA2 z0 z1 z2 z3 y0 y1 y2 y3 p1' p2'; obtain ⟨⟨m0, m1, m2, m3⟩, -⟩ := b7; obtain ⟨⟨r0, r1, r2, r3⟩, g0, g1, g2, g3⟩ := bO))
     have T4 := turns_put4 w3 w.heap.size (.bool false) (.slice none 0 0) (.slice none 0 0) (.slice none 0 0)
     refine bodyPost_ret (v := .tuple #[.agg #[.bool false, .slice none 0 0, .slice none 0 0, .slice none 0 0], .int .i64 4]) (by simp [results, Try.results40, go_sem, r0, r1, r2, r3]) rfl (answers_none (Below.turns B3.out T4 (fun k hk => by omega)))
    ·
     go_enter Try.func40, Try.ntmps40
     go_wp2_with (first
      | (go_at_call 51; rw [← hW]; refine cN.mono ?_; rintro y w2 ⟨n, a, d, n', a', d', n'', a'', d'', rfl, rfl, rfl, rfl, i1, i2, i3, j1, j2, j3, b2, t2⟩; have b02 := b0.turns t2 (by omega); obtain ⟨⟨p0, p1, p2⟩, -⟩ := id b2; have p1' := cell_alloc p1; have p2' := cell_alloc p2; have zz := fun o => b02.alloc o; have z0 := fun o => (zz o).1.1; have z1 := fun o => (zz o).1.2.1; have z2 := fun o => (zz o).1.2.2.1; have z3 := fun o => (zz o).1.2.2.2; have y0 := fun o => (zz o).2.1; have y1 := fun o => (zz o).2.2.1; have y2 := fun o => (zz o).2.2.2.1; have y3 := fun o => (zz o).2.2.2.2; have B2 : Hid (Below w.heap.size w w2) := Below.turns hB0 t2 (fun k hk => by omega); have I1 : Hid (IsS w2 a d ks) := i1; have I2 : Hid (IsS w2 a' d' vs) := i2; have I3 : Hid (IsI w2 a'' d'' cs) := i3; have J1 : Hid (From W.heap.size a) := j1; have J2 : Hid (From W.heap.size a') := j2; have J3 : Hid (From W.heap.size a'') := j3; have hz2 : Hid (W.heap.size ≤ w2.heap.size) := t2.size; clear i1 i2 i3 j1 j2 j3 b2 t2 p0 p1 p2 zz b02)
      | (go_at_call 41; have hA2 : Below w2.heap.size w2 (w2.alloc (.cells #[.bool l, .slice a ks.length d, .slice a' vs.length d', .slice a'' cs.length d''] 62)) := (Below.refl _ _).alloc (Nat.le_refl _) _; refine (cR _ a d a' d' a'' d'' (I1.out.below hA2) (I2.out.below hA2) (I3.out.below hA2)).mono ?_; rintro y w3 ⟨rfl, hb⟩; have b7 := (box4_new w2 (.bool l) (.slice a ks.length d) (.slice a' vs.length d') (.slice a'' cs.length d'') 62 rfl).below hb; have bO := (Box4.below (h := w.heap.size) (v0 := .bool false) (v1 := .slice none 0 0) (v2 := .slice none 0 0) (v3 := .slice none 0 0) ⟨⟨z0 _, z1 _, z2 _, z3 _⟩, y0 _, y1 _, y2 _, y3 _⟩ hb); have B3 : Hid (Below w.heap.size w w3) := Below.tr (Below.tr B2.out hA2) hb; replace I1 : Hid (IsS w3 a d ks) := (I1.out.below hA2).below hb; replace I2 : Hid (IsS w3 a' d' vs) := (I2.out.below hA2).below hb; replace I3 : Hid (IsI w3 a'' d'' cs) := (I3.out.below hA2).below hb; clear hb hA2 z0 z1 z2 z3 y0 y1 y2 y3 p1' p2'; obtain ⟨⟨m0, m1, m2, m3⟩, -⟩ := b7; obtain ⟨⟨r0, r1, r2, r3⟩, g0, g1, g2, g3⟩ := bO))
     have T4 := turns_put4 w3 w.heap.size (.bool false) (.slice none 0 0) (.slice none 0 0) (.slice none 0 0)
     refine bodyPost_ret (v := .tuple #[.agg #[.bool false, .slice none 0 0, .slice none 0 0, .slice none 0 0], .int .i64 4]) (by simp [results, Try.results40, go_sem, r0, r1, r2, r3]) rfl (answers_none (Below.turns B3.out T4 (fun k hk => by omega)))
  ·
   have hP' : (P != (s.size : Int)) = true := by simpa using hP
   simp only [hP, false_and, if_false]
   rcases hk with rfl | rfl
   ·
    go_enter Try.func40, Try.ntmps40
    go_wp2_with (first
     | (go_at_call 51; rw [← hW]; refine cN.mono ?_; rintro y w2 ⟨n, a, d, n', a', d', n'', a'', d'', rfl, rfl, rfl, rfl, i1, i2, i3, j1, j2, j3, b2, t2⟩; have b02 := b0.turns t2 (by omega); obtain ⟨⟨p0, p1, p2⟩, -⟩ := id b2; have p1' := cell_alloc p1; have p2' := cell_alloc p2; have zz := fun o => b02.alloc o; have z0 := fun o => (zz o).1.1; have z1 := fun o => (zz o).1.2.1; have z2 := fun o => (zz o).1.2.2.1; have z3 := fun o => (zz o).1.2.2.2; have y0 := fun o => (zz o).2.1; have y1 := fun o => (zz o).2.2.1; have y2 := fun o => (zz o).2.2.2.1; have y3 := fun o => (zz o).2.2.2.2; have B2 : Hid (Below w.heap.size w w2) := Below.turns hB0 t2 (fun k hk => by omega); have I1 : Hid (IsS w2 a d ks) := i1; have I2 : Hid (IsS w2 a' d' vs) := i2; have I3 : Hid (IsI w2 a'' d'' cs) := i3; have J1 : Hid (From W.heap.size a) := j1; have J2 : Hid (From W.heap.size a') := j2; have J3 : Hid (From W.heap.size a'') := j3; have hz2 : Hid (W.heap.size ≤ w2.heap.size) := t2.size; clear i1 i2 i3 j1 j2 j3 b2 t2 p0 p1 p2 zz b02))
    have hA2 : Below w2.heap.size w2 (w2.alloc (.cells #[.bool l, .slice a ks.length d, .slice a' vs.length d', .slice a'' cs.length d''] 62)) := (Below.refl _ _).alloc (Nat.le_refl _) _
    have T4 := turns_put4 (w2.alloc (.cells #[.bool l, .slice a ks.length d, .slice a' vs.length d', .slice a'' cs.length d''] 62)) w.heap.size (.bool false) (.slice none 0 0) (.slice none 0 0) (.slice none 0 0)
    refine bodyPost_ret (v := .tuple #[.agg #[.bool false, .slice none 0 0, .slice none 0 0, .slice none 0 0], .int .i64 4]) (by simp [results, Try.results40, go_sem, z0, z1, z2, z3]) rfl (answers_none (Below.turns (Below.tr B2.out hA2) T4 (fun k hk => by omega)))
   ·
    go_enter Try.func40, Try.ntmps40
    go_wp2_with (first
     | (go_at_call 51; rw [← hW]; refine cN.mono ?_; rintro y w2 ⟨n, a, d, n', a', d', n'', a'', d'', rfl, rfl, rfl, rfl, i1, i2, i3, j1, j2, j3, b2, t2⟩; have b02 := b0.turns t2 (by omega); obtain ⟨⟨p0, p1, p2⟩, -⟩ := id b2; have p1' := cell_alloc p1; have p2' := cell_alloc p2; have zz := fun o => b02.alloc o; have z0 := fun o => (zz o).1.1; have z1 := fun o => (zz o).1.2.1; have z2 := fun o => (zz o).1.2.2.1; have z3 := fun o => (zz o).1.2.2.2; have y0 := fun o => (zz o).2.1; have y1 := fun o => (zz o).2.2.1; have y2 := fun o => (zz o).2.2.2.1; have y3 := fun o => (zz o).2.2.2.2; have B2 : Hid (Below w.heap.size w w2) := Below.turns hB0 t2 (fun k hk => by omega); have I1 : Hid (IsS w2 a d ks) := i1; have I2 : Hid (IsS w2 a' d' vs) := i2; have I3 : Hid (IsI w2 a'' d'' cs) := i3; have J1 : Hid (From W.heap.size a) := j1; have J2 : Hid (From W.heap.size a') := j2; have J3 : Hid (From W.heap.size a'') := j3; have hz2 : Hid (W.heap.size ≤ w2.heap.size) := t2.size; clear i1 i2 i3 j1 j2 j3 b2 t2 p0 p1 p2 zz b02))
    have hA2 : Below w2.heap.size w2 (w2.alloc (.cells #[.bool l, .slice a ks.length d, .slice a' vs.length d', .slice a'' cs.length d''] 62)) := (Below.refl _ _).alloc (Nat.le_refl _) _
    have T4 := turns_put4 (w2.alloc (.cells #[.bool l, .slice a ks.length d, .slice a' vs.length d', .slice a'' cs.length d''] 62)) w.heap.size (.bool false) (.slice none 0 0) (.slice none 0 0) (.slice none 0 0)
    refine bodyPost_ret (v := .tuple #[.agg #[.bool false, .slice none 0 0, .slice none 0 0, .slice none 0 0], .int .i64 4]) (by simp [results, Try.results40, go_sem, z0, z1, z2, z3]) rfl (answers_none (Below.turns (Below.tr B2.out hA2) T4 (fun k hk => by omega)))
 ·
  have hE' : (E != 0) = true := by simpa using hE
  simp only [hE, if_false]
  rcases hk with rfl | rfl
  ·
   go_enter Try.func40, Try.ntmps40
   go_wp2_with (first
    | (go_at_call 51; rw [← hW]; refine cN.mono ?_; rintro y w2 ⟨n, a, d, n', a', d', n'', a'', d'', rfl, rfl, rfl, rfl, i1, i2, i3, j1, j2, j3, b2, t2⟩; have b02 := b0.turns t2 (by omega); obtain ⟨⟨p0, p1, p2⟩, -⟩ := id b2; have p1' := cell_alloc p1; have p2' := cell_alloc p2; have zz := fun o => b02.alloc o; have z0 := fun o => (zz o).1.1; have z1 := fun o => (zz o).1.2.1; have z2 := fun o => (zz o).1.2.2.1; have z3 := fun o => (zz o).1.2.2.2; have y0 := fun o => (zz o).2.1; have y1 := fun o => (zz o).2.2.1; have y2 := fun o => (zz o).2.2.2.1; have y3 := fun o => (zz o).2.2.2.2; have B2 : Hid (Below w.heap.size w w2) := Below.turns hB0 t2 (fun k hk => by omega); have I1 : Hid (IsS w2 a d ks) := i1; have I2 : Hid (IsS w2 a' d' vs) := i2; have I3 : Hid (IsI w2 a'' d'' cs) := i3; have J1 : Hid (From W.heap.size a) := j1; have J2 : Hid (From W.heap.size a') := j2; have J3 : Hid (From W.heap.size a'') := j3; have hz2 : Hid (W.heap.size ≤ w2.heap.size) := t2.size; clear i1 i2 i3 j1 j2 j3 b2 t2 p0 p1 p2 zz b02))
   go_region
   go_wp2
   have hA2 : Below w2.heap.size w2 (w2.alloc (.cells #[.bool l, .slice a ks.length d, .slice a' vs.length d', .slice a'' cs.length d''] 62)) := (Below.refl _ _).alloc (Nat.le_refl _) _
   have T4 := turns_put4 (w2.alloc (.cells #[.bool l, .slice a ks.length d, .slice a' vs.length d', .slice a'' cs.length d''] 62)) w.heap.size (.bool false) (.slice none 0 0) (.slice none 0 0) (.slice none 0 0)
   refine bodyPost_ret (v := .tuple #[.agg #[.bool false, .slice none 0 0, .slice none 0 0, .slice none 0 0], .int .i64 E]) (by simp [results, Try.results40, go_sem, z0, z1, z2, z3]) rfl (answers_none (Below.turns (Below.tr B2.out hA2) T4 (fun k hk => by omega)).drew)
  ·
   go_enter Try.func40, Try.ntmps40
   go_wp2_with (first
    | (go_at_call 51; rw [← hW]; refine cN.mono ?_; rintro y w2 ⟨n, a, d, n', a', d', n'', a'', d'', rfl, rfl, rfl, rfl, i1, i2, i3, j1, j2, j3, b2, t2⟩; have b02 := b0.turns t2 (by omega); obtain ⟨⟨p0, p1, p2⟩, -⟩ := id b2; have p1' := cell_alloc p1; have p2' := cell_alloc p2; have zz := fun o => b02.alloc o; have z0 := fun o => (zz o).1.1; have z1 := fun o => (zz o).1.2.1; have z2 := fun o => (zz o).1.2.2.1; have z3 := fun o => (zz o).1.2.2.2; have y0 := fun o => (zz o).2.1; have y1 := fun o => (zz o).2.2.1; have y2 := fun o => (zz o).2.2.2.1; have y3 := fun o => (zz o).2.2.2.2; have B2 : Hid (Below w.heap.size w w2) := Below.turns hB0 t2 (fun k hk => by omega); have I1 : Hid (IsS w2 a d ks) := i1; have I2 : Hid (IsS w2 a' d' vs) := i2; have I3 : Hid (IsI w2 a'' d'' cs) := i3; have J1 : Hid (From W.heap.size a) := j1; have J2 : Hid (From W.heap.size a') := j2; have J3 : Hid (From W.heap.size a'') := j3; have hz2 : Hid (W.heap.size ≤ w2.heap.size) := t2.size; clear i1 i2 i3 j1 j2 j3 b2 t2 p0 p1 p2 zz b02))
   go_region
   go_wp2
   have hA2 : Below w2.heap.size w2 (w2.alloc (.cells #[.bool l, .slice a ks.length d, .slice a' vs.length d', .slice a'' cs.length d''] 62)) := (Below.refl _ _).alloc (Nat.le_refl _) _
   have T4 := turns_put4 (w2.alloc (.cells #[.bool l, .slice a ks.length d, .slice a' vs.length d', .slice a'' cs.length d''] 62)) w.heap.size (.bool false) (.slice none 0 0) (.slice none 0 0) (.slice none 0 0)
   refine bodyPost_ret (v := .tuple #[.agg #[.bool false, .slice none 0 0, .slice none 0 0, .slice none 0 0], .int .i64 E]) (by simp [results, Try.results40, go_sem, z0, z1, z2, z3]) rfl (answers_none (Below.turns (Below.tr B2.out hA2) T4 (fun k hk => by omega)).drew)
set_option maxHeartbeats 1000000 in
theorem nodeGet_kind (kind : Int) (s : ByteArray) (w : World) (h1 : kind ≠ 1) (h2 : kind ≠ 2) :
  Calls Try.prog 40 #[.int .i64 kind, .string s] w fun x w' => Answers w x w' false [] [] [] 81 := by
 have k1 : (kind != 1) = true := by simpa using h1
 have k2 : (kind != 2) = true := by simpa using h2
 have b0 := box4_new w (.bool false) (.slice none 0 0) (.slice none 0 0) (.slice none 0 0) 62 rfl
 have hB0 : Below w.heap.size w (w.alloc (.cells #[.bool false, .slice none 0 0, .slice none 0 0, .slice none 0 0] 62)) := (Below.refl _ _).alloc (Nat.le_refl _) _
 have hle : w.heap.size ≤ w.heap.size := Nat.le_refl _
 obtain ⟨⟨z0, z1, z2, z3⟩, y0, y1, y2, y3⟩ := id b0
 go_enter Try.func40, Try.ntmps40
 go_wp2
 refine bodyPost_ret (v := .tuple #[.agg #[.bool false, .slice none 0 0, .slice none 0 0, .slice none 0 0], .int .i64 81]) (by simp [results, Try.results40, go_sem, z0, z1, z2, z3]) rfl (answers_none ?_)
 exact hB0
theorem nodeGet_any (kind : Int) (s : ByteArray) (w : World) (hs : s.size ≤ maxLen) :
  Calls Try.prog 40 #[.int .i64 kind, .string s] w fun x w' => Answers w x w' (gN kind s).1 (gN kind s).2.1 (gN kind s).2.2.1 (gN kind s).2.2.2 (gE kind s) := by
 by_cases h1 : kind = 1
 ·
  have hR : nodeR kind s = leafR s := by unfold nodeR; rw [if_pos h1]
  rw [leafR_end] at hR
  refine (nodeGet_core kind s w hs (.inl h1) true (endL s).ks (endL s).vs [] (endL s).p (endL s).e (fun V r b => by rw [h1]; exact rnodeL_any r s V b hs)).mono fun x w' h => ?_
  by_cases e0 : (endL s).e = 0
  ·
   rw [if_pos e0] at h hR
   by_cases e1 : (endL s).p = s.size ∧ rightN true (endL s).ks (endL s).vs [] true = true
   ·
    rw [if_pos e1] at h hR
    obtain ⟨g1, g2⟩ := g_inr hR
    rw [g1, g2]; exact h
   ·
    rw [if_neg e1] at h hR
    obtain ⟨g1, g2⟩ := g_inl hR
    rw [g1, g2]; exact h
  ·
   rw [if_neg e0] at h hR
   obtain ⟨g1, g2⟩ := g_inl hR
   rw [g1, g2]; exact h
 ·
  by_cases h2 : kind = 2
  ·
   have hR : nodeR kind s = innR s := by unfold nodeR; rw [if_neg h1, if_pos h2]
   rw [innR_end] at hR
   refine (nodeGet_core kind s w hs (.inr h2) false (endI s).ks [] (endI s).cs (endI s).p (endI s).e (fun V r b => by rw [h2]; exact rnodeI_any r s V b hs)).mono fun x w' h => ?_
   by_cases e0 : (endI s).e = 0
   ·
    rw [if_pos e0] at h hR
    by_cases e1 : (endI s).p = s.size ∧ rightN false (endI s).ks [] (endI s).cs true = true
    ·
     rw [if_pos e1] at h hR
     obtain ⟨g1, g2⟩ := g_inr hR
     rw [g1, g2]; exact h
    ·
     rw [if_neg e1] at h hR
     obtain ⟨g1, g2⟩ := g_inl hR
     rw [g1, g2]; exact h
   ·
    rw [if_neg e0] at h hR
    obtain ⟨g1, g2⟩ := g_inl hR
    rw [g1, g2]; exact h
  ·
   have hR : nodeR kind s = .inl 81 := by unfold nodeR; rw [if_neg h1, if_neg h2]
   obtain ⟨g1, g2⟩ := g_inl hR
   rw [g1, g2]
   exact nodeGet_kind kind s w h1 h2
end Go.Proofs.Ytpepgpjiddophaa
namespace Go.Proofs.Ytpepgpjiddophaa
open Go.RowKit Plain
set_option linter.unusedVariables false
end Go.Proofs.Ytpepgpjiddophaa
namespace Go.Proofs.Ytpepgpjiddophaa
open Go.RowKit Plain Anylast
set_option linter.unusedVariables false
end Go.Proofs.Ytpepgpjiddophaa
namespace Go.Proofs.Ytpepgpjiddophaa
open Go.RowKit Plain Go.ChangeShapes Go.WideShapes
set_option linter.unusedVariables false
def IsB (w : World) (a : Option Addr) (c : Nat) (l : List Bool) : Prop :=
 l.length ≤ c ∧ c ≤ maxLen ∧ ∀ j x, l[j]? = some x → ∃ b o, a = some ⟨b, o, none⟩ ∧ b < w.heap.size ∧ w.cell? ⟨b, o + j, none⟩ = some (.bool x)
theorem IsB_nil (w : World) : IsB w none 0 [] := ⟨Nat.le_refl _, Nat.zero_le _, fun j x hx => by simp at hx⟩
theorem IsB.below {w w' : World} {a : Option Addr} {c : Nat} {l : List Bool} (h : IsB w a c l) (hb : Below w.heap.size w w') : IsB w' a c l := by
 refine ⟨h.1, h.2.1, fun j x hx => ?_⟩
 obtain ⟨b, o, ha, hlt, hc⟩ := h.2.2 j x hx
 exact ⟨b, o, ha, Nat.lt_of_lt_of_le hlt hb.size, by rw [hb.cell (p := ⟨b, o + j, none⟩) hlt]; exact hc⟩
theorem IsB.take {w : World} {a : Option Addr} {c : Nat} {l : List Bool} (h : IsB w a c l) (n : Nat) : IsB w a c (l.take n) := by
 refine ⟨by rw [List.length_take]; have := h.1; omega, h.2.1, fun j x hx => h.2.2 j x ?_⟩
 rw [List.getElem?_take] at hx
 split at hx
 ·
  exact hx
 ·
  cases hx
theorem IsB.some {w : World} {a : Option Addr} {c : Nat} {l : List Bool} (h : IsB w a c l) (h0 : 0 < l.length) : ∃ b o, a = .some ⟨b, o, none⟩ ∧ b < w.heap.size := by
 obtain ⟨b, o, ha, hl, _⟩ := h.2.2 0 l[0] (List.getElem?_eq_getElem h0)
 exact ⟨b, o, ha, hl⟩
theorem IsB.at {w : World} {b o c : Nat} {l : List Bool} (h : IsB w (.some ⟨b, o, none⟩) c l) {j : Nat} {x : Bool} (hx : l[j]? = .some x) : w.cell? ⟨b, o + j, none⟩ = .some (.bool x) := by
 obtain ⟨b', o', he, _, hc⟩ := h.2.2 j x hx
 cases he
 exact hc
theorem open_B {H : Type} {enc : TypeId × Value → H} {w : World} {fuel : Nat} {v : Value} {x : DataW H × List MemPlace}
  (h : DataW.trod enc Try.prog w 0 (fun _ => true) true fuel 22 [v] = some x) : ∃ a c l, v = .slice a l.length c ∧ IsB w a c l := by
 rcases Deep.open_bools Try.underlying22 Try.underlying4 (by kernel_rfl) h with ⟨hcs, _⟩ | ⟨a, n, c, B, hcs, _, hl, hm, _, hcell⟩
 ·
  simp at hcs
  exact ⟨none, 0, [], hcs, Nat.le_refl _, Nat.zero_le _, fun j m hj => by simp at hj⟩
 ·
  simp at hcs
  refine ⟨some a, c, (List.range n).map B, by simpa using hcs, by simpa using hl, hm, fun j y hy => ?_⟩
  have hj : j < n := by simpa using (List.getElem?_eq_some_iff.1 hy).1
  rw [List.getElem?_map, List.getElem?_range hj] at hy
  simp at hy
  subst hy
  obtain ⟨b, o, rfl, hb⟩ := spot_none (hcell 0 (by omega))
  have hc := hcell j (by omega)
  rw [at_add] at hc
  exact ⟨b, o, rfl, hb, hc⟩
def RowT (w : World) (g cap : Nat) (l : List Bool) : Prop :=
 ∃ cur : Array Value, w.heap[g]? = some (.cells cur 4 (0, 0)) ∧ cur.toList.take l.length = l.map Value.bool ∧ l.length ≤ cap ∧ cap ≤ maxLen ∧ cur.size = cap
theorem RowT.lt {w : World} {g cap : Nat} {l : List Bool} (h : RowT w g cap l) : g < w.heap.size := by
 obtain ⟨cur, hg, _⟩ := h
 exact (Array.getElem?_eq_some_iff.1 hg).1
theorem RowT.below {w w' : World} {g cap : Nat} {l : List Bool} (h : RowT w g cap l) (hb : Below w.heap.size w w') : RowT w' g cap l := by
 have hl := h.lt
 obtain ⟨cur, hg, hr⟩ := h
 exact ⟨cur, by rw [hb.block g hl]; exact hg, hr⟩
theorem RowT.cell {w : World} {g cap : Nat} {l : List Bool} (h : RowT w g cap l) {j : Nat} {x : Bool} (hx : l[j]? = some x) : w.cell? ⟨g, j, none⟩ = some (.bool x) ∧ w.frozen? ⟨g, j, none⟩ = false := by
 obtain ⟨cur, hg, ht, hl, _, hs⟩ := h
 have hj := (List.getElem?_eq_some_iff.1 hx).1
 have hc : cur[j]? = some (.bool x) := by
  rw [← Array.getElem?_toList]
  have : (cur.toList.take l.length)[j]? = some (.bool x) := by rw [ht, List.getElem?_map, hx]; rfl
  rwa [List.getElem?_take_of_lt hj] at this
 exact ⟨by rw [Joins.cell_of_block hg]; exact hc, Joins.unfrozen_of_block hg j⟩
theorem RowT.set {w : World} {g cap : Nat} {l : List Bool} (h : RowT w g cap l) (j : Nat) (x : Bool) : RowT (w.setCell ⟨g, j, none⟩ (.bool x)) g cap (l.set j x) := by
 obtain ⟨cur, hg, ht, hl, hm, hs⟩ := h
 refine ⟨_, Joins.block_setCell hg _, ?_, by rw [List.length_set]; exact hl, hm, by rw [Array.size_setIfInBounds]; exact hs⟩
 rw [List.length_set, Array.toList_setIfInBounds, List.take_set, ht, List.map_set]
theorem RowT.isB {w : World} {g cap : Nat} {l : List Bool} (h : RowT w g cap l) : IsB w (some ⟨g, 0, none⟩) cap l := by
 have hl := h.lt
 have hc := h
 obtain ⟨cur, hg, ht, h1, h2, hs⟩ := h
 exact ⟨h1, h2, fun j x hx => ⟨g, 0, rfl, hl, by rw [Nat.zero_add]; exact (hc.cell hx).1⟩⟩
theorem RowT.new (W : World) (n : Nat) {Z : Array Value} (hZ : Z = (List.replicate n (Value.bool false)).toArray) {g : Nat} (hg : g = W.heap.size) (hn : n ≤ maxLen) : RowT (W.alloc (.cells Z 4)) g n (List.replicate n false) := by
 subst hg hZ
 refine ⟨_, heap_new W _, ?_, by simp, hn, by simp⟩
 simp
theorem ownsRow_T {w : World} {base : Nat} {v : Value} {l : List Bool} (h : w.ownsRow base 4 1 v l.length (l.map Value.bool)) : (v = .slice none 0 0 ∧ l = []) ∨ ∃ g cap, v = .slice (some ⟨g, 0, none⟩) l.length cap ∧ base ≤ g ∧ RowT w g cap l := by
 rcases h.2 with ⟨h1, h2⟩ | ⟨g, cap, cur, rfl, hg, hcur, hnc, hcm, hsz, htk⟩
 ·
  exact .inl ⟨h1, List.length_eq_zero_iff.1 h2⟩
 ·
  exact .inr ⟨g, cap, rfl, hg, cur, hcur, by simpa using htk, by omega, hcm, by omega⟩
def rowsOf (ds : List (Option Addr × Nat × List Bool)) : List (List Bool) := ds.map (·.2.2)
theorem rowsOf_get {ds : List (Option Addr × Nat × List Bool)} {j : Nat} {d : (Option Addr × Nat × List Bool)} (h : ds[j]? = some d) : (rowsOf ds)[j]? = some d.2.2 := by unfold rowsOf; rw [List.getElem?_map, h]; rfl
def IsL (w : World) (a : Option Addr) (c : Nat) (ds : List (Option Addr × Nat × List Bool)) : Prop :=
 ds.length ≤ c ∧ c ≤ maxLen ∧ ∀ j d, ds[j]? = some d → IsB w d.1 d.2.1 d.2.2 ∧ ∃ b o, a = some ⟨b, o, none⟩ ∧ b < w.heap.size ∧ w.cell? ⟨b, o + j, none⟩ = some (.slice d.1 d.2.2.length d.2.1)
theorem IsL.rows_le {w : World} {a : Option Addr} {c : Nat} {ds : List (Option Addr × Nat × List Bool)} (h : IsL w a c ds) : ∀ l ∈ rowsOf ds, l.length ≤ maxLen := by
 intro l hl
 obtain ⟨d, hd, rfl⟩ := List.mem_map.1 hl
 obtain ⟨j, hj⟩ := List.getElem?_of_mem hd
 have := (h.2.2 j d hj).1
 exact Nat.le_trans this.1 this.2.1
end Go.Proofs.Ytpepgpjiddophaa
namespace Go.Proofs.Ytpepgpjiddophaa
open Go.RowKit Plain
set_option linter.unusedVariables false
def least (n : Nat) : List (List Bool) → Nat
 | [] => n
 | l :: ls => least (min n l.length) ls
theorem least_append (n : Nat) (xs ys : List (List Bool)) : least n (xs ++ ys) = least (least n xs) ys := by
 induction xs generalizing n with
 | nil => rfl
 | cons x xs ih => rw [List.cons_append, least, least, ih]
theorem least_le (n : Nat) (ls : List (List Bool)) : least n ls ≤ n := by
 induction ls generalizing n with
 | nil => exact Nat.le_refl _
 | cons x xs ih => rw [least]; have := ih (min n x.length); omega
theorem least_mem (n : Nat) (ls : List (List Bool)) : ∀ l ∈ ls, least n ls ≤ l.length := by
 induction ls generalizing n with
 | nil => intro l hl; cases hl
 | cons x xs ih =>
  intro l hl
  rw [least]
  rcases List.mem_cons.1 hl with rfl | hl
  ·
   have := least_le (min n l.length) xs; omega
  ·
   exact ih _ l hl
theorem least_is (n : Nat) (ls : List (List Bool)) : least n ls = n ∨ ∃ l ∈ ls, l.length = least n ls := by
 induction ls generalizing n with
 | nil => exact .inl rfl
 | cons x xs ih =>
  rw [least]
  rcases ih (min n x.length) with h | ⟨l, hl, h⟩
  ·
   rw [h]
   by_cases e : n ≤ x.length
   ·
    exact .inl (by omega)
   ·
    exact .inr ⟨x, by simp, by omega⟩
  ·
   exact .inr ⟨l, by simp [hl], h⟩
def shortestB (ls : List (List Bool)) : Nat := match ls with
 | [] => 0
 | l :: _ => least l.length ls
theorem shortestB_is {ls : List (List Bool)} (h : ls ≠ []) : ∃ l ∈ ls, l.length = shortestB ls := by
 cases ls with
 | nil => exact absurd rfl h
 | cons x xs =>
  rcases least_is x.length (x :: xs) with h | h
  ·
   exact ⟨x, by simp, h.symm⟩
  ·
   exact h
theorem shortestB_le (ls : List (List Bool)) : ∀ l ∈ ls, shortestB ls ≤ l.length := by
 cases ls with
 | nil => intro l hl; cases hl
 | cons x xs => exact least_mem _ _
theorem countB_short (ls : List (List Bool)) : countN ls (shortestB ls) = countB ls := by
 by_cases h : ls = []
 ·
  subst h; rfl
 ·
  obtain ⟨l, hl, he⟩ := shortestB_is h
  unfold countB
  rw [← he, ← countN_past hl _ (longest_le hl)]
theorem take_rows {ds : List (Option Addr × Nat × List Bool)} {j : Nat} {d : (Option Addr × Nat × List Bool)} (h : ds[j]? = some d) : rowsOf (ds.take (j + 1)) = rowsOf (ds.take j) ++ [d.2.2] := by
 unfold rowsOf; rw [List.take_add_one, h, List.map_append]; rfl
theorem take_all {ds : List (Option Addr × Nat × List Bool)} {n : Nat} (h : n = ds.length) : rowsOf (ds.take n) = rowsOf ds := by rw [h, List.take_length]
set_option maxHeartbeats 1000000 in
theorem shortest_any (a : Option Addr) (c : Nat) (ds : List (Option Addr × Nat × List Bool)) (w : World) (hL : IsL w a c ds) :
  Calls Try.prog 37 #[.slice a ds.length c] w fun e w' => e = .returned (.int .i64 (shortestB (rowsOf ds))) ∧ w = w' := by
 obtain ⟨n, hn⟩ : ∃ n, n = ds.length := ⟨_, rfl⟩
 have hnb : n ≤ 9223372036854775807 := by rw [hn]; exact Nat.le_trans hL.1 hL.2.1
 have HL : Hid (IsL w a c ds) := hL
 have HN : Hid (n = ds.length) := hn
 rw [← hn]
 clear hL hn
 by_cases h0 : n = 0
 ·
  have he : Hid ((0 : Int) = ((shortestB (rowsOf ds) : Nat) : Int)) := by
   show _ = _
   have : ds = [] := List.length_eq_zero_iff.1 (HN.out.symm.trans h0)
   rw [this]; rfl
  subst h0
  go_enter Try.func37, Try.ntmps37
  go_wp2
  go_ret
  exact ⟨ret_int he.out, rfl⟩
 ·
  have h0' : ((n : Int) == 0) = false := by simp; omega
  have h0n : 0 < n := by omega
  have h0i : (0 : Int) < n := by omega
  obtain ⟨d0, hd0⟩ : ∃ d, Hid (ds[0]? = some d) := ⟨ds[0]'(by rw [← HN.out]; exact h0n), show _ = _ from List.getElem?_eq_getElem (by rw [← HN.out]; exact h0n)⟩
  obtain ⟨hdB0, b, o, rfl, hbl, hc0⟩ := HL.out.2.2 0 d0 hd0.out
  obtain ⟨k0, hk0⟩ : ∃ k, Hid (k = d0.2.2.length) := ⟨_, rfl⟩
  have hkb0 : k0 ≤ 9223372036854775807 := by rw [hk0.out]; exact Nat.le_trans hdB0.1 hdB0.2.1
  rw [← hk0.out] at hc0
  have hsh : Hid (shortestB (rowsOf ds) = least k0 (rowsOf ds)) := by
   show _ = _
   cases hds : ds with
   | nil => rw [hds] at hd0; cases hd0.out
   | cons x xs =>
    have hx := hd0.out
    rw [hds] at hx
    simp at hx
    subst hx
    rw [hk0.out]; rfl
  generalize d0.1 = da0 at hc0 hdB0
  generalize d0.2.1 = dc0 at hc0 hdB0
  clear hdB0 hd0
  rw [Nat.add_zero] at hc0
  go_enter Try.func37, Try.ntmps37
  go_wp2
  go_loopw [3, 14] (fun u v wr => ∃ j m : Nat, j ≤ n ∧ v = .int .i64 j ∧ m = least k0 (rowsOf (ds.take j)) ∧ m ≤ k0 ∧ u = .int .i64 m ∧ w = wr) (fun _ v _ => n - (intOf v).toNat)
  case atStart => exact ⟨0, k0, by omega, rfl, rfl, Nat.le_refl _, rfl, by trivial⟩
  case round =>
   obtain ⟨j, m, hj, rfl, hm, hmk, rfl, rfl⟩ := hrel
   have HM : Hid (m = least k0 (rowsOf (ds.take j))) := hm
   clear hm
   by_cases hlt : j < n
   ·
    have hlt' : (j : Int) < n := by omega
    obtain ⟨d, hd⟩ : ∃ d, Hid (ds[j]? = some d) := ⟨_, List.getElem?_eq_getElem (by rw [← HN.out]; exact hlt)⟩
    obtain ⟨hdB, b', o', he, hbl, hc⟩ := HL.out.2.2 j d hd.out
    cases he
    obtain ⟨k, hk⟩ : ∃ k, k = d.2.2.length := ⟨_, rfl⟩
    have hkb : k ≤ 9223372036854775807 := by rw [hk]; exact Nat.le_trans hdB.1 hdB.2.1
    rw [← hk] at hc
    have hnx : Hid (least k0 (rowsOf (ds.take (j + 1))) = min m k) := by
     show _ = _
     rw [take_rows hd.out, least_append, ← HM.out, hk]
     simp [least]
    generalize d.1 = da at hc hdB
    generalize d.2.1 = dc at hc hdB
    clear hdB hk hd
    obtain ⟨mx, hmx, hmx', hmk2⟩ : ∃ mx : Nat, Hid (mx = min m k) ∧ min (m : Int) k = mx ∧ mx ≤ k0 := ⟨_, rfl, by omega, by omega⟩
    have hmr := min_run hmx'
    clear hmx'
    go_wp2
    go_roundw
    case rel => exact ⟨j + 1, mx, by omega, by go_num, by rw [hnx.out]; exact hmx.out, hmk2, rfl, by trivial⟩
    case measure => simp [intOf]; omega
   ·
    obtain rfl : j = n := by omega
    have he : Hid ((m : Int) = ((shortestB (rowsOf ds) : Nat) : Int)) := by show _ = _; rw [HM.out, take_all HN.out, hsh.out]
    go_wp2
    go_ret
    exact ⟨ret_int he.out, rfl⟩
def allB (ls : List (List Bool)) (i : Nat) : Bool := decide (howB ls i = ls.length)
theorem allB_yes {ls : List (List Bool)} {i : Nat} (h : ∀ l ∈ ls, atB l i = true) : allB ls i = true := decide_eq_true (howB_all.2 h)
theorem allB_no {ls : List (List Bool)} {i : Nat} {l : List Bool} (hl : l ∈ ls) (h : atB l i = false) : allB ls i = false := by
 refine decide_eq_false fun hh => ?_
 have := howB_all.1 hh l hl
 rw [h] at this; cases this
set_option maxHeartbeats 1000000 in
theorem allHave_any (a : Option Addr) (c : Nat) (ds : List (Option Addr × Nat × List Bool)) (i : Nat) (w : World) (hL : IsL w a c ds) (hi : ∀ l ∈ rowsOf ds, i < l.length) :
  Calls Try.prog 38 #[.slice a ds.length c, .int .i64 i] w fun e w' => e = .returned (.bool (allB (rowsOf ds) i)) ∧ w = w' := by
 obtain ⟨n, hn⟩ : ∃ n, n = ds.length := ⟨_, rfl⟩
 have hnb : n ≤ 9223372036854775807 := by rw [hn]; exact Nat.le_trans hL.1 hL.2.1
 have HL : Hid (IsL w a c ds) := hL
 have HN : Hid (n = ds.length) := hn
 have HI : Hid (∀ l ∈ rowsOf ds, i < l.length) := hi
 rw [← hn]
 clear hL hn hi
 go_enter Try.func38, Try.ntmps38
 go_wp2
 go_loopw [8] (fun v wr => ∃ j : Nat, j ≤ n ∧ v = .int .i64 j ∧ (∀ l ∈ rowsOf (ds.take j), atB l i = true) ∧ w = wr) (fun v _ => n - (intOf v).toNat)
 case atStart => exact ⟨0, by omega, rfl, fun l hl => (by cases hl), by trivial⟩
 case round =>
  obtain ⟨j, hj, rfl, hall, rfl⟩ := hrel
  have HA : Hid (∀ l ∈ rowsOf (ds.take j), atB l i = true) := hall
  clear hall
  by_cases hlt : j < n
  ·
   have hlt' : (j : Int) < n := by omega
   obtain ⟨d, hd⟩ : ∃ d, Hid (ds[j]? = some d) := ⟨_, List.getElem?_eq_getElem (by rw [← HN.out]; exact hlt)⟩
   have hmem : Hid (d.2.2 ∈ rowsOf ds) := List.mem_of_getElem? (rowsOf_get hd.out)
   obtain ⟨hdB, b, o, rfl, hbl, hc⟩ := HL.out.2.2 j d hd.out
   obtain ⟨q, hq⟩ : ∃ q, Hid (d.2.2[i]? = some q) := ⟨_, List.getElem?_eq_getElem (HI.out _ hmem.out)⟩
   obtain ⟨b2, o2, ha2, hbl2, hc2⟩ := hdB.2.2 i q hq.out
   have hik : i < d.2.2.length := HI.out _ hmem.out
   rw [ha2] at hc
   obtain ⟨k, hk⟩ : ∃ k, k = d.2.2.length := ⟨_, rfl⟩
   rw [← hk] at hc hik
   have hik' : (i : Int) < k := by omega
   generalize d.2.1 = dc at hc hdB
   clear hdB hk
   cases q with
   | false =>
    have hE : Hid (allB (rowsOf ds) i = false) := allB_no hmem.out (atB_some hq.out)
    go_wp2
    go_ret
    exact ⟨ret_bool hE.out.symm, rfl⟩
   | true =>
    have hE : Hid (∀ l ∈ rowsOf (ds.take (j + 1)), atB l i = true) := by
     intro l hl
     rw [take_rows hd.out] at hl
     rcases List.mem_append.1 hl with h | h
     ·
      exact HA.out l h
     ·
      obtain rfl : l = d.2.2 := by simpa using h
      exact atB_some hq.out
    go_wp2
    go_roundw
    case rel => exact ⟨j + 1, by omega, by go_num, hE.out, by trivial⟩
    case measure => simp [intOf]; omega
  ·
   obtain rfl : j = n := by omega
   have hE : Hid (allB (rowsOf ds) i = true) := allB_yes (by have := HA.out; rw [take_all HN.out] at this; exact this)
   go_wp2
   go_ret
   exact ⟨ret_bool hE.out.symm, rfl⟩
theorem countN_succ (ls : List (List Bool)) (n : Nat) : countN ls (n + 1) = countN ls n + bn (allB ls n) := rfl
set_option maxHeartbeats 1000000 in
theorem count_any (a : Option Addr) (c : Nat) (ds : List (Option Addr × Nat × List Bool)) (w : World) (hL : IsL w a c ds) :
  Calls Try.prog 32 #[.slice a ds.length c] w fun e w' => e = .returned (.int .i64 (countB (rowsOf ds))) ∧ w = w' := by
 obtain ⟨n, hn⟩ : ∃ n, n = ds.length := ⟨_, rfl⟩
 obtain ⟨k, hk⟩ : ∃ k, k = shortestB (rowsOf ds) := ⟨_, rfl⟩
 have hnb : n ≤ 9223372036854775807 := by rw [hn]; exact Nat.le_trans hL.1 hL.2.1
 have hkb : k ≤ 9223372036854775807 := by
  rw [hk]
  by_cases h : rowsOf ds = []
  ·
   rw [h]; exact Nat.zero_le _
  ·
   obtain ⟨l, hl, he⟩ := shortestB_is h
   rw [← he]; exact hL.rows_le l hl
 have cs : ∀ W, w = W → Calls Try.prog 37 #[.slice a n c] W fun e w' => e = .returned (.int .i64 k) ∧ w = w' := by
  rintro W rfl; rw [hn, hk]; exact shortest_any a c ds w hL
 have ca : ∀ (i : Nat) W, i < k → w = W → Calls Try.prog 38 #[.slice a n c, .int .i64 i] W fun e w' => e = .returned (.bool (allB (rowsOf ds) i)) ∧ w = w' := by
  rintro i W hi rfl; rw [hn]; exact allHave_any a c ds i w hL fun l hl => by have := shortestB_le _ l hl; omega
 have HK : Hid (k = shortestB (rowsOf ds)) := hk
 rw [← hn]
 clear hL hn hk
 go_enter Try.func32, Try.ntmps32
 go_wp2_with (go_at_call 37; refine (cs _ rfl).mono ?_; rintro e w' ⟨rfl, rfl⟩)
 go_loopw [3, 7] (fun u v wr => ∃ j m : Nat, j ≤ k ∧ v = .int .i64 j ∧ m = countN (rowsOf ds) j ∧ m ≤ j ∧ u = .int .i64 m ∧ w = wr) (fun _ v _ => k - (intOf v).toNat)
 case atStart => exact ⟨0, 0, by omega, rfl, rfl, Nat.le_refl _, rfl, by trivial⟩
 case round =>
  obtain ⟨j, m, hj, rfl, hm, hmj, rfl, rfl⟩ := hrel
  have HM : Hid (m = countN (rowsOf ds) j) := hm
  clear hm
  by_cases hlt : j < k
  ·
   have hlt' : (j : Int) < k := by omega
   obtain ⟨q, hq⟩ : ∃ q, Hid (allB (rowsOf ds) j = q) := ⟨_, rfl⟩
   have ca' : ∀ W, w = W → Calls Try.prog 38 #[.slice a n c, .int .i64 j] W fun e w' => e = .returned (.bool q) ∧ w = w' := by
    intro W hW; rw [← hq.out]; exact ca j W hlt hW
   have hnx : Hid (countN (rowsOf ds) (j + 1) = m + bn q) := by show _ = _; rw [countN_succ, ← HM.out, hq.out]
   cases q with
   | true =>
    go_wp2_with (go_at_call 38; refine (ca' _ rfl).mono ?_; rintro e w' ⟨rfl, rfl⟩)
    go_roundw
    case rel => exact ⟨j + 1, m + 1, by omega, by go_num, hnx.out.symm, by omega, by go_num, by trivial⟩
    case measure => simp [intOf]; omega
   | false =>
    go_wp2_with (go_at_call 38; refine (ca' _ rfl).mono ?_; rintro e w' ⟨rfl, rfl⟩)
    go_roundw
    case rel => exact ⟨j + 1, m, by omega, by go_num, hnx.out.symm, by omega, rfl, by trivial⟩
    case measure => simp [intOf]; omega
  ·
   obtain rfl : j = k := by omega
   have he : Hid ((m : Int) = ((countB (rowsOf ds) : Nat) : Int)) := by show _ = _; rw [HM.out, HK.out, countB_short]
   go_wp2
   go_ret
   exact ⟨ret_int he.out, rfl⟩
def OwnT (base : Nat) (w : World) (a : Option Addr) (cap : Nat) (l : List Bool) : Prop :=
 (a = none ∧ cap = 0 ∧ l = []) ∨ ∃ g, a = some ⟨g, 0, none⟩ ∧ base ≤ g ∧ RowT w g cap l
theorem OwnT.isB {base : Nat} {w : World} {a : Option Addr} {cap : Nat} {l : List Bool} (h : OwnT base w a cap l) : IsB w a cap l := by
 rcases h with ⟨rfl, rfl, rfl⟩ | ⟨g, rfl, _, hr⟩
 ·
  exact IsB_nil _
 ·
  exact hr.isB
theorem isB_src {w : World} {ad : Addr} {c : Nat} {l : List Bool} (h : IsB w (some ad) c l) : ∀ j u, (l.map Value.bool)[j]? = some u → w.cell? (ad.add j) = some u := by
 intro j u hj
 rw [List.getElem?_map] at hj
 obtain ⟨x, hx, rfl⟩ := Option.map_eq_some_iff.1 hj
 obtain ⟨b', o', ha, _, hc⟩ := h.2.2 j x hx
 cases ha
 rw [at_add]
 exact hc
theorem run_append_none {w : World} (base : Nat) (t ty e : TypeId) (i : TypeInfo) (size m c : Nat) (hm : m = 0) (ht : Try.prog.underlying t = some (.slice e)) (hi : Try.prog.info? e = some i)
  (v : Value) (n : Nat) (xs : List Value) (hown : w.ownsRow base e size v n xs) :
  (Builtin.append_ #[t, t] ty #[v, .slice none m c]).run Try.prog w = .ok v w := by
 subst hm
 rcases hown.2 with ⟨rfl, rfl⟩ | ⟨g, cap, cur, rfl, _, _, hnc, _⟩
 ·
  simp [Builtin.append_, run_underlying ht, sizeOf, typeInfo, hi, Builtin.lenOf, Builtin.firstCells]
 ·
  simp [Builtin.append_, run_underlying ht, sizeOf, typeInfo, hi, Builtin.lenOf, Builtin.firstCells, hnc, storeCells]
theorem copyT (W : World) (a : Option Addr) (c n : Nat) (l : List Bool) (hn : n = l.length) (hB : IsB W a c l) (hz : n ≤ 140737488355328) (ty : TypeId) :
  ∃ g cap w', (Builtin.append_ #[22, 22] ty #[.slice (some ⟨W.heap.size, 0, none⟩) 0 0, .slice a n c]).run Try.prog (W.alloc (.cells #[] 4)) = .ok (.slice (some ⟨g, 0, none⟩) n cap) w' ∧ W.heap.size ≤ g ∧ RowT w' g cap l ∧ Below W.heap.size W w' := by
 subst hn
 obtain ⟨i0, hi, hz0, hz1, hz2⟩ := info_parts Try.info4
 have hown := World.ownsRow_made (base := W.heap.size) (e := 4) (size := 1) W #[] 0 (Nat.le_refl _) (Nat.zero_le _) rfl
 have hB0 := (Below.refl W.heap.size W).alloc (Nat.le_refl _) (.cells #[] 4)
 cases a with
 | none =>
  have h0 : l = [] := by
   rcases Nat.eq_zero_or_pos l.length with h | h
   ·
    exact List.length_eq_zero_iff.1 h
   ·
    obtain ⟨b, o, hh, _⟩ := hB.some h
    cases hh
  subst h0
  refine ⟨W.heap.size, 0, _, run_append_none W.heap.size _ ty _ i0 1 0 c rfl Try.underlying22 hi _ _ _ hown, Nat.le_refl _, ⟨#[], ?_, rfl, Nat.le_refl _, Nat.zero_le _, rfl⟩, hB0⟩
  exact heap_new W _
 | some ad =>
  obtain ⟨v', w', hr, h2, h3, h4⟩ := run_append_own (P := Try.prog) (W.alloc (.cells #[] 4)) W.heap.size 22 ty 4 i0 _ 1 1 Try.underlying22 hi hz0 hz1 hz2 rfl (by decide) _ 0 _ hown ad l.length c (l.map Value.bool) (by simp) (isB_src (hB.below hB0))
   (fun u hu => by obtain ⟨x, _, rfl⟩ := List.mem_map.1 hu; rfl) (by have := hB.1; have := hB.2.1; unfold maxLen at *; omega) (by omega) (by simp)
  rcases h2.2 with ⟨h, _⟩ | ⟨g, cap, cur, h, hg, hcur, hnc, hcm, hsz, htk⟩
  ·
   exact absurd (h4.1 h).1 (by simp)
  ·
   subst h
   refine ⟨g, cap, w', by rw [hr, Nat.zero_add], hg, ⟨cur, hcur, by simpa using htk, by omega, hcm, by omega⟩, hB0.grown h3 (by simp) (by intro k hk; simp [Value.ownBlock] at hk; omega)⟩
theorem isL_two {W : World} {a b : Option Addr} {c d n m : Nat} {l k : List Bool} (hn : n = l.length) (hm : m = k.length) (h : IsB W a c l) (h' : IsB W b d k) : IsL (W.alloc (.cells #[.slice a n c, .slice b m d] 22)) (some ⟨W.heap.size, 0, none⟩) 2 [(a, c, l), (b, d, k)] := by
 subst hn hm
 have hB := (Below.refl W.heap.size W).alloc (Nat.le_refl _) (.cells #[.slice a l.length c, .slice b k.length d] 22)
 refine ⟨Nat.le_refl _, by unfold maxLen; omega, fun j x hd => ?_⟩
 match j, hd with
 | 0, hd =>
  simp at hd
  subst hd
  exact ⟨h.below hB, W.heap.size, 0, rfl, by simp, World.cell?_alloc_at _ _ _ _ rfl⟩
 | 1, hd =>
  simp at hd
  subst hd
  exact ⟨h'.below hB, W.heap.size, 0, rfl, by simp, World.cell?_alloc_at _ _ _ _ rfl⟩
theorem count_two (W : World) (b b' : Option Addr) (d d' n n' : Nat) (l l' : List Bool) (hn : n = l.length) (hn' : n' = l'.length) (h : IsB W b d l) (h' : IsB W b' d' l') :
  Calls Try.prog 32 #[.slice (some ⟨W.heap.size, 0, none⟩) 2 2] (W.alloc (.cells #[.slice b n d, .slice b' n' d'] 22)) fun e w' => e = .returned (.int .i64 (countB [l, l'])) ∧ Below W.heap.size W w' :=
 (count_any _ _ _ _ (isL_two hn hn' h h')).mono fun e w' ⟨he, hw⟩ => ⟨he, hw ▸ (Below.refl _ _).alloc (Nat.le_refl _) _⟩
end Go.Proofs.Ytpepgpjiddophaa
namespace Go.Proofs.Ytpepgpjiddophaa
open Go.RowKit Plain Go.ChangeShapes Go.WideShapes
set_option linter.unusedVariables false
def Box2 (w : World) (h : Nat) (v0 v1 : Value) : Prop :=
 (w.cell? ⟨h, 0, none⟩ = some v0 ∧ w.cell? ⟨h, 1, none⟩ = some v1) ∧ w.frozen? ⟨h, 0, none⟩ = false ∧ w.frozen? ⟨h, 1, none⟩ = false
theorem box2_new (w : World) (v0 v1 : Value) (t : TypeId) {h : Nat} (hh : h = w.heap.size) : Box2 (w.alloc (.cells #[v0, v1] t)) h v0 v1 := by
 subst hh
 refine ⟨⟨World.cell?_alloc_at _ _ _ _ rfl, World.cell?_alloc_at _ _ _ _ rfl⟩, ?_, ?_⟩
 ·
  exact (World.frozen?_alloc_mark w _ _ _ _ 0).trans (by simp)
 ·
  exact (World.frozen?_alloc_mark w _ _ _ _ 1).trans (by simp)
theorem Box2.lt {w : World} {h : Nat} {v0 v1 : Value} (b : Box2 w h v0 v1) : h < w.heap.size := cell_lt b.1.1
theorem Box2.below {w w' : World} {h : Nat} {v0 v1 : Value} (b : Box2 w h v0 v1) (hb : Below w.heap.size w w') : Box2 w' h v0 v1 := by
 have hl := b.lt
 obtain ⟨⟨c0, c1⟩, f0, f1⟩ := b
 exact ⟨⟨cell_below hb c0, cell_below hb c1⟩, by rw [hb.frozen (p := ⟨h, 0, none⟩) hl]; exact f0, by rw [hb.frozen (p := ⟨h, 1, none⟩) hl]; exact f1⟩
theorem Box2.alloc {w : World} {h : Nat} {v0 v1 : Value} (b : Box2 w h v0 v1) (o : Obj) : Box2 (w.alloc o) h v0 v1 := b.below ((Below.refl _ _).alloc (Nat.le_refl _) o)
theorem below_set2 {w w1 : World} {h : Nat} {v0 v1 : Value} (hB : Below w.heap.size w w1) (hh : w.heap.size ≤ h) : Below w.heap.size w ((w1.setCell ⟨h, 0, none⟩ v0).setCell ⟨h, 1, none⟩ v1) :=
 (hB.setCell (p := ⟨h, 0, none⟩) hh _).setCell (p := ⟨h, 1, none⟩) hh _
theorem OwnT.store {base : Nat} {w : World} {a : Option Addr} {cap : Nat} {l : List Bool} (h : OwnT base w a cap l) {k : Nat} (hk : k < base) (i : Nat) (v : Value) : OwnT base (w.setCell ⟨k, i, none⟩ v) a cap l := by
 rcases h with h | ⟨g, h1, h2, cur, hg, hr⟩
 ·
  exact .inl h
 ·
  exact .inr ⟨g, h1, h2, cur, by rw [Below.heap_setCell _ _ _ _ (show g ≠ k by omega)]; exact hg, hr⟩
theorem OwnT.mono {base base' : Nat} {w : World} {a : Option Addr} {cap : Nat} {l : List Bool} (h : OwnT base w a cap l) (hb : base' ≤ base) : OwnT base' w a cap l := by
 rcases h with h | ⟨g, h1, h2, hr⟩
 ·
  exact .inl h
 ·
  exact .inr ⟨g, h1, Nat.le_trans hb h2, hr⟩
theorem OwnT_nil (base : Nat) (w : World) : OwnT base w none 0 [] := .inl ⟨rfl, rfl, rfl⟩
end Go.Proofs.Ytpepgpjiddophaa
namespace Go.Proofs.Ytpepgpjiddophaa
set_option linter.unusedVariables false
theorem op_at {ops : Array Oper} {i : Nat} {o : Oper} {post : List Oper} (hd : ops.toList.drop i = o :: post) : ops[i]? = some o := by
 have h := List.getElem?_drop (xs := ops.toList) (i := i) (j := 0)
 rw [hd] at h
 simpa using h.symm
theorem take_at {P : Program} {ops : Array Oper} {Q : Exit → Act → World → Prop} {md : Region.Mode} {S : World → Prop} {i : Nat} {o : Oper} {post : List Oper} {v : Value} {fuel : Nat} {listed : Array Bool} {a : Act} {w : World}
  (hd : ops.toList.drop i = o :: post) (hs : Region.noSelect ops = true) (hf : Region.free md ops listed i = true) (hr : (Region.ready md ops listed).contains i = true)
  (hQ : ∀ c a w, Q (.panic c) (a.put o.dst v) w → Q (.panic c) a w) (hy : YieldsIf P ops S o v a) (hS : S w)
  (h : wpAnyH P md ops Q S fuel (listed.setIfInBounds i true) (a.put o.dst v) w) : wpAnyH P md ops Q S (fuel + 1) listed a w :=
 wpAnyH_take (op_at hd) hs hf hr hQ hy hS h
theorem cons_at {P : Program} {ops : Array Oper} {Q : Exit → Act → World → Prop} {md : Region.Mode} {S : World → Prop} {fuel : Nat} {listed : Array Bool} {a : Act} {w : World} {i : Nat} {o : Oper} {post : List Oper} {rs : List Nat}
  (hd : ops.toList.drop i = o :: post)
  (h : ∀ K' : Act → World → Prop, Shut (∀ a w, S w → (S w → wpAnyH P md ops Q S fuel (listed.setIfInBounds i true) a w) → K' a w) → if Region.wanted o (yielded ops a.tmps) = true then Oper.wp P o a w K' Q else K' (a.put o.dst undef) w)
  (hs : AllReadyH P md ops Q S fuel listed a w rs) : AllReadyH P md ops Q S fuel listed a w (i :: rs) :=
 AllReadyH.cons (op_at hd) h hs
end Go.Proofs.Ytpepgpjiddophaa
namespace Go.Proofs.Ytpepgpjiddophaa
open Go.RowKit Plain
set_option linter.unusedVariables false
def mayB (k : Int) : Bool := decide (24 ≤ k) && decide (k ≤ 2048)
theorem mayHave_any (k : Int) (w : World) : Calls Try.prog 31 #[.int .i64 k] w fun e w' => e = .returned (.bool (mayB k)) ∧ w = w' := by
 by_cases h1 : 24 ≤ k
 ·
  by_cases h2 : k ≤ 2048
  ·
   have e : Hid (mayB k = true) := by show _ = _; unfold mayB; rw [decide_eq_true h1, decide_eq_true h2]; rfl
   go_enter Try.func31, Try.ntmps31
   go_wp2
   go_ret
   exact ⟨ret_bool e.out.symm, rfl⟩
  ·
   have e : Hid (mayB k = false) := by show _ = _; unfold mayB; rw [decide_eq_true h1, decide_eq_false h2]; rfl
   go_enter Try.func31, Try.ntmps31
   go_wp2
   go_ret
   exact ⟨ret_bool e.out.symm, rfl⟩
 ·
  have e : Hid (mayB k = false) := by show _ = _; unfold mayB; rw [decide_eq_false h1]; rfl
  go_enter Try.func31, Try.ntmps31
  go_wp2
  go_ret
  exact ⟨ret_bool e.out.symm, rfl⟩
theorem right_lens {b m : List Bool} (h : b.length ≠ m.length) : rightA b m = false := by
 rw [Bool.eq_false_iff]; exact fun hr => h ((rightA_iff b m).1 hr).1
theorem right_may {b m : List Bool} (h : mayB m.length = false) : rightA b m = false := by
 rw [Bool.eq_false_iff]
 intro hr
 obtain ⟨_, h1, h2, _⟩ := (rightA_iff b m).1 hr
 unfold mayB at h
 rw [decide_eq_true (by omega), decide_eq_true (by omega)] at h
 cases h
theorem atB_take10 (l : List Bool) {i : Nat} (h : i < 10) : atB (l.take 10) i = atB l i := by
 unfold atB; rw [List.getElem?_take_of_lt h]
theorem right_ten {b m : List Bool} (h : b.length = m.length) (hm : mayB m.length = true) : rightA b m = ((countB [b.take 10, m.take 10] : Int) == 10) := by
 unfold mayB at hm
 simp at hm
 have hl : longest [b.take 10, m.take 10] = 10 := by simp [longest]; omega
 have hc : countB [b.take 10, m.take 10] = howN (allB [b.take 10, m.take 10]) 10 := by
  unfold countB
  rw [hl]
  generalize [b.take 10, m.take 10] = ls
  generalize 10 = k
  induction k with
  | zero => rfl
  | succ k ih => rw [countN_succ, howN, ih]
 have hall : ∀ i, i < 10 → (allB [b.take 10, m.take 10] i = true ↔ atB b i = true ∧ atB m i = true) := by
  intro i hi
  unfold allB
  rw [decide_eq_true_eq, howB_all]
  rw [← atB_take10 b hi, ← atB_take10 m hi]
  simp
 rw [Bool.eq_iff_iff, rightA_iff, beq_iff_eq, hc]
 constructor
 ·
  rintro ⟨_, _, _, h4⟩
  rw [howN_all fun i hi => (hall i hi).2 (h4 i hi)]; rfl
 ·
  intro h10
  refine ⟨h, by omega, by omega, fun i hi => (hall i hi).1 ?_⟩
  cases hf : allB [b.take 10, m.take 10] i with
  | true => rfl
  | false =>
   have h2 : howN (fun j => !allB [b.take 10, m.take 10] j) 10 + howN (allB [b.take 10, m.take 10]) 10 = 10 := by
    have := howN_or (f := fun j => !allB [b.take 10, m.take 10] j) (g := allB [b.take 10, m.take 10]) (h := fun _ => true) (k := 10) (fun j _ => by cases allB [b.take 10, m.take 10] j <;> simp)
    rw [← this, howN_all fun _ _ => rfl]
   have h3 : howN (fun j => !allB [b.take 10, m.take 10] j) 10 = 0 := by omega
   have := howN_zero.1 h3 i hi
   rw [hf] at this
   cases this
set_option maxRecDepth 20000 in
set_option maxHeartbeats 2000000 in
theorem allocRight_any (a a' : Option Addr) (c c' n n' : Nat) (b m : List Bool) (w : World) (hn : n = b.length) (hn' : n' = m.length) (hB : IsB w a c b) (hB' : IsB w a' c' m) :
  Calls Try.prog 22 #[.agg #[.slice a n c, .slice a' n' c']] w fun e w' => e = .returned (.bool (rightA b m)) ∧ Below w.heap.size w w' := by
 have hnb : n ≤ 9223372036854775807 := by rw [hn]; exact Nat.le_trans hB.1 hB.2.1
 have hnb' : n' ≤ 9223372036854775807 := by rw [hn']; exact Nat.le_trans hB'.1 hB'.2.1
 have hB0 : Below w.heap.size w (w.alloc (.cells #[.slice a n c, .slice a' n' c'] 24)) := (Below.refl _ _).alloc (Nat.le_refl _) _
 obtain ⟨⟨q0, q1⟩, -⟩ := box2_new w (.slice a n c) (.slice a' n' c') 24 rfl
 by_cases hl : n = n'
 ·
  subst hl
  cases hm : mayB n with
  | false =>
   have he : Hid (rightA b m = false) := right_may (by rw [← hn']; exact hm)
   clear hn hn' hB hB'
   go_enter Try.func22, Try.ntmps22
   go_wp2
   generalize w.alloc (.cells #[.slice a n c, .slice a' n c'] 24) = W at q0 q1 hB0 ⊢
   refine wp_region_noPanic ?_
   refine wp_region_held_drew (S := fun V => V.cell? ⟨w.heap.size, 0, none⟩ = some (.slice a n c) ∧ V.cell? ⟨w.heap.size, 1, none⟩ = some (.slice a' n c')) (by kernel_rfl) ⟨q0, q1⟩ (fun hHeld => ?_)
   refine take_at (i := 0) (v := ?_) rfl (by kernel_rfl) (by kernel_rfl) (by kernel_rfl) (fun _ _ _ h => h) (Or.inl ⟨by rfl, ?_⟩) (by assumption) ?_
   rotate_left 1
   ·
    (intro w hSw; (try dsimp only at hSw); go_simp; (try with_reducible rfl))
   try go_frame
   refine take_at (i := 1) (v := ?_) rfl (by kernel_rfl) (by kernel_rfl) (by kernel_rfl) (fun _ _ _ h => h) (Or.inl ⟨by rfl, ?_⟩) (by assumption) ?_
   rotate_left 1
   ·
    (intro w hSw; (try dsimp only at hSw); go_simp; (try with_reducible rfl))
   try go_frame
   refine take_at (i := 2) (v := ?_) rfl (by kernel_rfl) (by kernel_rfl) (by kernel_rfl) (fun _ _ _ h => h) (Or.inl ⟨by rfl, ?_⟩) (by assumption) ?_
   rotate_left 1
   ·
    (intro w hSw; (try dsimp only at hSw); go_simp; (try with_reducible rfl))
   try go_frame
   refine take_at (i := 3) (v := ?_) rfl (by kernel_rfl) (by kernel_rfl) (by kernel_rfl) (fun _ _ _ h => h) (Or.inl ⟨by rfl, ?_⟩) (by assumption) ?_
   rotate_left 1
   ·
    (intro w hSw; (try dsimp only at hSw); go_simp; (try with_reducible rfl))
   try go_frame
   refine take_at (i := 4) (v := ?_) rfl (by kernel_rfl) (by kernel_rfl) (by kernel_rfl) (fun _ _ _ h => h) (Or.inl ⟨by rfl, ?_⟩) (by assumption) ?_
   rotate_left 1
   ·
    (intro w hSw; (try dsimp only at hSw); go_simp; (try with_reducible rfl))
   try go_frame
   refine take_at (i := 5) (v := ?_) rfl (by kernel_rfl) (by kernel_rfl) (by kernel_rfl) (fun _ _ _ h => h) (Or.inl ⟨by rfl, ?_⟩) (by assumption) ?_
   rotate_left 1
   ·
    (intro w hSw; (try dsimp only at hSw); go_simp; (try with_reducible rfl))
   try go_frame
   refine take_at (i := 6) (v := ?_) rfl (by kernel_rfl) (by kernel_rfl) (by kernel_rfl) (fun _ _ _ h => h) (Or.inl ⟨by rfl, ?_⟩) (by assumption) ?_
   rotate_left 1
   ·
    (intro w hSw; (try dsimp only at hSw); go_simp; (try with_reducible rfl))
   try go_frame
   refine take_at (i := 7) (v := ?_) rfl (by kernel_rfl) (by kernel_rfl) (by kernel_rfl) (fun _ _ _ h => h) (Or.inl ⟨by rfl, ?_⟩) (by assumption) ?_
   rotate_left 1
   ·
    (intro w hSw; (try dsimp only at hSw); go_simp; (try with_reducible rfl))
   try go_frame
   refine take_at (i := 8) (v := ?_) rfl (by kernel_rfl) (by kernel_rfl) (by kernel_rfl) (fun _ _ _ h => h) (Or.inl ⟨by rfl, ?_⟩) (by assumption) ?_
   rotate_left 1
   ·
    (intro w hSw; (try dsimp only at hSw); go_simp; (try with_reducible rfl))
   try go_frame
   refine take_at (i := 9) (v := ?_) rfl (by kernel_rfl) (by kernel_rfl) (by kernel_rfl) (fun _ _ _ h => h) (Or.inl ⟨by rfl, ?_⟩) (by assumption) ?_
   rotate_left 1
   ·
    (intro w hSw; (try dsimp only at hSw); go_simp; (try with_reducible rfl))
   try go_frame
   refine take_at (i := 10) (v := ?_) rfl (by kernel_rfl) (by kernel_rfl) (by kernel_rfl) (fun _ _ _ h => h) (Or.inl ⟨by rfl, ?_⟩) (by assumption) ?_
   rotate_left 1
   ·
    (intro w hSw; (try dsimp only at hSw); go_simp; (try with_reducible rfl))
   try go_frame
   refine wpAnyH_ready (rs := [11]) (by kernel_rfl) (by simp) ?_
   refine cons_at (i := 11) rfl (fun K hK => ?_) AllReadyH.nil
   go_simp
   go_at_call 31
   refine (mayHave_any _ _).mono ?_
   rw [hm]
   rintro e w' ⟨rfl, rfl⟩
   refine hK.out _ _ ?_ (fun hHeld => ?_)
   ·
    assumption
   clear hK K
   refine take_at (i := 12) (v := ?_) rfl (by kernel_rfl) (by kernel_rfl) (by kernel_rfl) (fun _ _ _ h => h) (Or.inl ⟨by rfl, ?_⟩) (by assumption) ?_
   rotate_left 1
   ·
    (intro w hSw; (try dsimp only at hSw); go_simp; (try with_reducible rfl))
   try go_frame
   refine take_at (i := 13) (v := ?_) rfl (by kernel_rfl) (by kernel_rfl) (by kernel_rfl) (fun _ _ _ h => h) (Or.inl ⟨by rfl, ?_⟩) (by assumption) ?_
   rotate_left 1
   ·
    (intro w hSw; (try dsimp only at hSw); go_simp; (try with_reducible rfl))
   try go_frame
   refine take_at (i := 14) (v := undef) rfl (by kernel_rfl) (by kernel_rfl) (by kernel_rfl) (fun _ _ _ h => h) (Or.inr ⟨by rfl, rfl⟩) (by assumption) ?_
   try go_frame
   refine take_at (i := 15) (v := undef) rfl (by kernel_rfl) (by kernel_rfl) (by kernel_rfl) (fun _ _ _ h => h) (Or.inr ⟨by rfl, rfl⟩) (by assumption) ?_
   try go_frame
   refine take_at (i := 16) (v := undef) rfl (by kernel_rfl) (by kernel_rfl) (by kernel_rfl) (fun _ _ _ h => h) (Or.inr ⟨by rfl, rfl⟩) (by assumption) ?_
   try go_frame
   refine take_at (i := 17) (v := undef) rfl (by kernel_rfl) (by kernel_rfl) (by kernel_rfl) (fun _ _ _ h => h) (Or.inr ⟨by rfl, rfl⟩) (by assumption) ?_
   try go_frame
   refine take_at (i := 18) (v := undef) rfl (by kernel_rfl) (by kernel_rfl) (by kernel_rfl) (fun _ _ _ h => h) (Or.inr ⟨by rfl, rfl⟩) (by assumption) ?_
   try go_frame
   refine take_at (i := 19) (v := undef) rfl (by kernel_rfl) (by kernel_rfl) (by kernel_rfl) (fun _ _ _ h => h) (Or.inr ⟨by rfl, rfl⟩) (by assumption) ?_
   try go_frame
   refine take_at (i := 20) (v := undef) rfl (by kernel_rfl) (by kernel_rfl) (by kernel_rfl) (fun _ _ _ h => h) (Or.inr ⟨by rfl, rfl⟩) (by assumption) ?_
   try go_frame
   refine take_at (i := 21) (v := undef) rfl (by kernel_rfl) (by kernel_rfl) (by kernel_rfl) (fun _ _ _ h => h) (Or.inr ⟨by rfl, rfl⟩) (by assumption) ?_
   try go_frame
   refine take_at (i := 22) (v := undef) rfl (by kernel_rfl) (by kernel_rfl) (by kernel_rfl) (fun _ _ _ h => h) (Or.inr ⟨by rfl, rfl⟩) (by assumption) ?_
   try go_frame
   refine take_at (i := 23) (v := ?_) rfl (by kernel_rfl) (by kernel_rfl) (by kernel_rfl) (fun _ _ _ h => h) (Or.inl ⟨by rfl, ?_⟩) (by assumption) ?_
   rotate_left 1
   ·
    (intro w hSw; (try dsimp only at hSw); go_simp; (try with_reducible rfl))
   try go_frame
   refine take_at (i := 24) (v := ?_) rfl (by kernel_rfl) (by kernel_rfl) (by kernel_rfl) (fun _ _ _ h => h) (Or.inl ⟨by rfl, ?_⟩) (by assumption) ?_
   rotate_left 1
   ·
    (intro w hSw; (try dsimp only at hSw); go_simp; (try with_reducible rfl))
   try go_frame
   refine wpAnyH_done (by kernel_rfl) ?_ _
   refine NoPanic.normal ?_
   go_wp2
   go_ret
   exact ⟨ret_bool he.out.symm, hB0.drew⟩
  | true =>
   have he : Hid (rightA b m = ((countB [b.take 10, m.take 10] : Int) == 10)) := right_ten (by omega) (by rw [← hn']; exact hm)
   have hr : 24 ≤ n ∧ n ≤ 2048 := by unfold mayB at hm; simp at hm; omega
   have hc1 : n ≤ c := by rw [hn]; exact hB.1
   have hc2 : n ≤ c' := by rw [hn']; exact hB'.1
   obtain ⟨b1, o1, rfl, -⟩ := hB.some (by omega)
   obtain ⟨b2, o2, rfl, -⟩ := hB'.some (by omega)
   have hd1 : (10 : Int) ≤ c := by omega
   have hd2 : (10 : Int) ≤ c' := by omega
   obtain ⟨X, hX⟩ : ∃ X, Hid (X = countB [b.take 10, m.take 10]) := ⟨_, rfl⟩
   have cc : ∀ W, Below w.heap.size w W → Calls Try.prog 32 #[.slice (some ⟨W.heap.size, 0, none⟩) 2 2] (W.alloc (.cells #[.slice (some ⟨b1, o1, none⟩) 10 c, .slice (some ⟨b2, o2, none⟩) 10 c'] 22)) fun e w' => e = .returned (.int .i64 X) ∧ Below W.heap.size W w' := by
    intro W hW
    rw [hX.out]
    exact count_two W _ _ c c' 10 10 (b.take 10) (m.take 10) (by rw [List.length_take]; omega) (by rw [List.length_take]; omega) ((hB.take 10).below hW) ((hB'.take 10).below hW)
   rw [← hX.out] at he
   clear hn hn' hB hB' hX
   go_enter Try.func22, Try.ntmps22
   go_wp2
   generalize w.alloc (.cells #[.slice (some ⟨b1, o1, none⟩) n c, .slice (some ⟨b2, o2, none⟩) n c'] 24) = W at q0 q1 hB0 ⊢
   replace hB0 := hB0.drew
   go_region_held3 (fun V => V.cell? ⟨w.heap.size, 0, none⟩ = some (.slice (some ⟨b1, o1, none⟩) n c) ∧ V.cell? ⟨w.heap.size, 1, none⟩ = some (.slice (some ⟨b2, o2, none⟩) n c')) (first | exact ⟨q0, q1⟩ | exact ⟨cell_alloc q0 _, cell_alloc q1 _⟩) (first
    | (go_at_call 31; refine (mayHave_any _ _).mono ?_; rw [hm]; rintro e w' ⟨rfl, rfl⟩)
    | (go_at_call 32; refine (cc _ hB0).mono ?_; rintro e w' ⟨rfl, hb⟩; replace q0 := cell_below hb q0; replace q1 := cell_below hb q1; replace hB0 := Below.tr hB0 hb; clear hb))
   go_wp2
   go_ret
   exact ⟨ret_bool he.out.symm, hB0⟩
 ·
  have he : Hid (rightA b m = false) := right_lens (by omega)
  have hl' : ((n : Int) == n') = false := by rw [beq_eq_false_iff_ne]; omega
  clear hn hn' hB hB'
  go_enter Try.func22, Try.ntmps22
  go_wp2
  generalize w.alloc (.cells #[.slice a n c, .slice a' n' c'] 24) = W at q0 q1 hB0 ⊢
  refine wp_region_noPanic ?_
  refine wp_region_held_drew (S := fun V => V.cell? ⟨w.heap.size, 0, none⟩ = some (.slice a n c) ∧ V.cell? ⟨w.heap.size, 1, none⟩ = some (.slice a' n' c')) (by kernel_rfl) ⟨q0, q1⟩ (fun hHeld => ?_)
  refine take_at (i := 0) (v := ?_) rfl (by kernel_rfl) (by kernel_rfl) (by kernel_rfl) (fun _ _ _ h => h) (Or.inl ⟨by rfl, ?_⟩) (by assumption) ?_
  rotate_left 1
  ·
   (intro w hSw; (try dsimp only at hSw); go_simp; (try with_reducible rfl))
  try go_frame
  refine take_at (i := 1) (v := ?_) rfl (by kernel_rfl) (by kernel_rfl) (by kernel_rfl) (fun _ _ _ h => h) (Or.inl ⟨by rfl, ?_⟩) (by assumption) ?_
  rotate_left 1
  ·
   (intro w hSw; (try dsimp only at hSw); go_simp; (try with_reducible rfl))
  try go_frame
  refine take_at (i := 2) (v := ?_) rfl (by kernel_rfl) (by kernel_rfl) (by kernel_rfl) (fun _ _ _ h => h) (Or.inl ⟨by rfl, ?_⟩) (by assumption) ?_
  rotate_left 1
  ·
   (intro w hSw; (try dsimp only at hSw); go_simp; (try with_reducible rfl))
  try go_frame
  refine take_at (i := 3) (v := ?_) rfl (by kernel_rfl) (by kernel_rfl) (by kernel_rfl) (fun _ _ _ h => h) (Or.inl ⟨by rfl, ?_⟩) (by assumption) ?_
  rotate_left 1
  ·
   (intro w hSw; (try dsimp only at hSw); go_simp; (try with_reducible rfl))
  try go_frame
  refine take_at (i := 4) (v := ?_) rfl (by kernel_rfl) (by kernel_rfl) (by kernel_rfl) (fun _ _ _ h => h) (Or.inl ⟨by rfl, ?_⟩) (by assumption) ?_
  rotate_left 1
  ·
   (intro w hSw; (try dsimp only at hSw); go_simp; (try with_reducible rfl))
  try go_frame
  refine take_at (i := 5) (v := ?_) rfl (by kernel_rfl) (by kernel_rfl) (by kernel_rfl) (fun _ _ _ h => h) (Or.inl ⟨by rfl, ?_⟩) (by assumption) ?_
  rotate_left 1
  ·
   (intro w hSw; (try dsimp only at hSw); go_simp; (try with_reducible rfl))
  try go_frame
  refine take_at (i := 6) (v := ?_) rfl (by kernel_rfl) (by kernel_rfl) (by kernel_rfl) (fun _ _ _ h => h) (Or.inl ⟨by rfl, ?_⟩) (by assumption) ?_
  rotate_left 1
  ·
   (intro w hSw; (try dsimp only at hSw); go_simp; (try with_reducible rfl))
  try go_frame
  refine take_at (i := 7) (v := ?_) rfl (by kernel_rfl) (by kernel_rfl) (by kernel_rfl) (fun _ _ _ h => h) (Or.inl ⟨by rfl, ?_⟩) (by assumption) ?_
  rotate_left 1
  ·
   (intro w hSw; (try dsimp only at hSw); go_simp; (try with_reducible rfl))
  try go_frame
  refine take_at (i := 8) (v := undef) rfl (by kernel_rfl) (by kernel_rfl) (by kernel_rfl) (fun _ _ _ h => h) (Or.inr ⟨by rfl, rfl⟩) (by assumption) ?_
  try go_frame
  refine take_at (i := 9) (v := undef) rfl (by kernel_rfl) (by kernel_rfl) (by kernel_rfl) (fun _ _ _ h => h) (Or.inr ⟨by rfl, rfl⟩) (by assumption) ?_
  try go_frame
  refine take_at (i := 10) (v := undef) rfl (by kernel_rfl) (by kernel_rfl) (by kernel_rfl) (fun _ _ _ h => h) (Or.inr ⟨by rfl, rfl⟩) (by assumption) ?_
  try go_frame
  refine take_at (i := 11) (v := undef) rfl (by kernel_rfl) (by kernel_rfl) (by kernel_rfl) (fun _ _ _ h => h) (Or.inr ⟨by rfl, rfl⟩) (by assumption) ?_
  try go_frame
  refine take_at (i := 12) (v := ?_) rfl (by kernel_rfl) (by kernel_rfl) (by kernel_rfl) (fun _ _ _ h => h) (Or.inl ⟨by rfl, ?_⟩) (by assumption) ?_
  rotate_left 1
  ·
   (intro w hSw; (try dsimp only at hSw); go_simp; (try with_reducible rfl))
  try go_frame
  refine take_at (i := 13) (v := ?_) rfl (by kernel_rfl) (by kernel_rfl) (by kernel_rfl) (fun _ _ _ h => h) (Or.inl ⟨by rfl, ?_⟩) (by assumption) ?_
  rotate_left 1
  ·
   (intro w hSw; (try dsimp only at hSw); go_simp; (try with_reducible rfl))
  try go_frame
  refine take_at (i := 14) (v := undef) rfl (by kernel_rfl) (by kernel_rfl) (by kernel_rfl) (fun _ _ _ h => h) (Or.inr ⟨by rfl, rfl⟩) (by assumption) ?_
  try go_frame
  refine take_at (i := 15) (v := undef) rfl (by kernel_rfl) (by kernel_rfl) (by kernel_rfl) (fun _ _ _ h => h) (Or.inr ⟨by rfl, rfl⟩) (by assumption) ?_
  try go_frame
  refine take_at (i := 16) (v := undef) rfl (by kernel_rfl) (by kernel_rfl) (by kernel_rfl) (fun _ _ _ h => h) (Or.inr ⟨by rfl, rfl⟩) (by assumption) ?_
  try go_frame
  refine take_at (i := 17) (v := undef) rfl (by kernel_rfl) (by kernel_rfl) (by kernel_rfl) (fun _ _ _ h => h) (Or.inr ⟨by rfl, rfl⟩) (by assumption) ?_
  try go_frame
  refine take_at (i := 18) (v := undef) rfl (by kernel_rfl) (by kernel_rfl) (by kernel_rfl) (fun _ _ _ h => h) (Or.inr ⟨by rfl, rfl⟩) (by assumption) ?_
  try go_frame
  refine take_at (i := 19) (v := undef) rfl (by kernel_rfl) (by kernel_rfl) (by kernel_rfl) (fun _ _ _ h => h) (Or.inr ⟨by rfl, rfl⟩) (by assumption) ?_
  try go_frame
  refine take_at (i := 20) (v := undef) rfl (by kernel_rfl) (by kernel_rfl) (by kernel_rfl) (fun _ _ _ h => h) (Or.inr ⟨by rfl, rfl⟩) (by assumption) ?_
  try go_frame
  refine take_at (i := 21) (v := undef) rfl (by kernel_rfl) (by kernel_rfl) (by kernel_rfl) (fun _ _ _ h => h) (Or.inr ⟨by rfl, rfl⟩) (by assumption) ?_
  try go_frame
  refine take_at (i := 22) (v := undef) rfl (by kernel_rfl) (by kernel_rfl) (by kernel_rfl) (fun _ _ _ h => h) (Or.inr ⟨by rfl, rfl⟩) (by assumption) ?_
  try go_frame
  refine take_at (i := 23) (v := ?_) rfl (by kernel_rfl) (by kernel_rfl) (by kernel_rfl) (fun _ _ _ h => h) (Or.inl ⟨by rfl, ?_⟩) (by assumption) ?_
  rotate_left 1
  ·
   (intro w hSw; (try dsimp only at hSw); go_simp; (try with_reducible rfl))
  try go_frame
  refine take_at (i := 24) (v := ?_) rfl (by kernel_rfl) (by kernel_rfl) (by kernel_rfl) (fun _ _ _ h => h) (Or.inl ⟨by rfl, ?_⟩) (by assumption) ?_
  rotate_left 1
  ·
   (intro w hSw; (try dsimp only at hSw); go_simp; (try with_reducible rfl))
  try go_frame
  refine wpAnyH_done (by kernel_rfl) ?_ _
  refine NoPanic.normal ?_
  go_wp2
  go_ret
  exact ⟨ret_bool he.out.symm, hB0.drew⟩
end Go.Proofs.Ytpepgpjiddophaa
namespace Go.Proofs.Ytpepgpjiddophaa.Anyorder
open Go
end Go.Proofs.Ytpepgpjiddophaa.Anyorder
namespace Go.Proofs.Ytpepgpjiddophaa
open Go.RowKit Plain Anyorder
set_option linter.unusedVariables false
end Go.Proofs.Ytpepgpjiddophaa
namespace Go.Proofs.Ytpepgpjiddophaa
open Go.RowKit Plain
set_option linter.unusedVariables false
def usedL (k j : Nat) : List Bool := (List.range k).map fun i => decide (i < j)
theorem usedL_length (k j : Nat) : (usedL k j).length = k := by simp [usedL]
theorem usedL_get {k i : Nat} (j : Nat) (h : i < k) : (usedL k j)[i]? = some (decide (i < j)) := by
 unfold usedL; rw [List.getElem?_map, List.getElem?_range h]; rfl
theorem usedL_zero (k : Nat) : usedL k 0 = List.replicate k false := by
 apply List.ext_getElem?
 intro i
 by_cases h : i < k
 ·
  rw [usedL_get 0 h, List.getElem?_replicate, if_pos h]; simp
 ·
  rw [List.getElem?_eq_none (by rw [usedL_length]; omega), List.getElem?_eq_none (by simp; omega)]
theorem usedL_set {k j : Nat} (h : j < k) : (usedL k j).set j true = usedL k (j + 1) := by
 apply List.ext_getElem?
 intro i
 by_cases hi : i < k
 ·
  rw [usedL_get _ hi]
  by_cases e : j = i
  ·
   subst e
   rw [List.getElem?_set_self (by rw [usedL_length]; exact h)]
   simp
  ·
   rw [List.getElem?_set_ne e, usedL_get _ hi, show decide (i < j + 1) = decide (i < j) from by rw [decide_eq_decide]; omega]
 ·
  rw [List.getElem?_eq_none (by rw [List.length_set, usedL_length]; omega), List.getElem?_eq_none (by rw [usedL_length]; omega)]
theorem two_box2 {w W : World} {v0 v1 u0 u1 : Value} {t : TypeId} (hW : W = (w.alloc (.cells #[v0, v1] t)).alloc (.cells #[u0, u1] t)) :
  Below w.heap.size w W ∧ W.heap.size = w.heap.size + 2 ∧ Box2 W w.heap.size v0 v1 ∧ Box2 W (w.heap.size + 1) u0 u1 := by
 subst hW
 refine ⟨((Below.refl _ _).alloc (Nat.le_refl _) _).alloc (by simp) _, by simp, (box2_new _ _ _ _ rfl).alloc _, box2_new _ _ _ _ (by simp)⟩
theorem right_size {b m : List Bool} (h : ¬ (24 ≤ m.length ∧ m.length ≤ 2048)) : rightA b m = false := by
 rw [Bool.eq_false_iff]
 intro hr
 obtain ⟨_, h1, h2, _⟩ := (rightA_iff b m).1 hr
 exact h ⟨h1, h2⟩
theorem right_place {b m : List Bool} {i : Nat} (hi : i < 10) (h : atB b i = false ∨ atB m i = false) : rightA b m = false := by
 rw [Bool.eq_false_iff]
 intro hr
 obtain ⟨_, _, _, h4⟩ := (rightA_iff b m).1 hr
 obtain ⟨h5, h6⟩ := h4 i hi
 rcases h with h | h
 ·
  rw [h] at h5; cases h5
 ·
  rw [h] at h6; cases h6
set_option maxHeartbeats 1000000 in
theorem allocRefRight_any (a a' : Option Addr) (c c' n n' : Nat) (b m : List Bool) (w : World) (hn : n = b.length) (hn' : n' = m.length) (hB : IsB w a c b) (hB' : IsB w a' c' m) :
  Calls Try.prog 18 #[.agg #[.slice a n c, .slice a' n' c']] w fun e w' => e = .returned (.bool (rightA b m)) ∧ Below w.heap.size w w' := by
 have hnb : n ≤ 9223372036854775807 := by rw [hn]; exact Nat.le_trans hB.1 hB.2.1
 have hnb' : n' ≤ 9223372036854775807 := by rw [hn']; exact Nat.le_trans hB'.1 hB'.2.1
 have hB0 : Below w.heap.size w (w.alloc (.cells #[.slice a n c, .slice a' n' c'] 24)) := (Below.refl _ _).alloc (Nat.le_refl _) _
 obtain ⟨⟨q0, q1⟩, -⟩ := box2_new w (.slice a n c) (.slice a' n' c') 24 rfl
 by_cases hl : n = n'
 ·
  subst hl
  by_cases h24 : 24 ≤ n
  ·
   by_cases h48 : n ≤ 2048
   ·
    have h1 : ¬ (n : Int) < 24 := by omega
    have h2 : ¬ (2048 : Int) < n := by omega
    have HB : Hid (IsB _ a c b) := hB.below hB0
    have HB' : Hid (IsB _ a' c' m) := hB'.below hB0
    have HN : Hid (n = b.length ∧ n = m.length) := ⟨hn, hn'⟩
    obtain ⟨b1, o1, rfl, -⟩ := hB.some (by omega)
    obtain ⟨b2, o2, rfl, -⟩ := hB'.some (by omega)
    clear hn hn' hB hB'
    go_enter Try.func18, Try.ntmps18
    go_wp2
    generalize w.alloc (.cells #[.slice (some ⟨b1, o1, none⟩) n c, .slice (some ⟨b2, o2, none⟩) n c'] 24) = W at q0 q1 hB0 HB HB' ⊢
    go_loopw [3] (fun v wr => ∃ j : Nat, j ≤ 10 ∧ v = .int .i64 j ∧ (∀ i, i < j → atB b i = true ∧ atB m i = true) ∧ W = wr) (fun v _ => 10 - (intOf v).toNat)
    case atStart => exact ⟨0, by omega, rfl, fun i hi => by omega, by trivial⟩
    case round =>
     obtain ⟨j, hj, rfl, hall, rfl⟩ := hrel
     have HA : Hid (∀ i, i < j → atB b i = true ∧ atB m i = true) := hall
     clear hall
     by_cases hlt : j < 10
     ·
      have hlt' : (j : Int) < 10 := by omega
      have hjn : (j : Int) < n := by omega
      obtain ⟨x, hx⟩ : ∃ q, Hid (b[j]? = some q) := ⟨_, List.getElem?_eq_getElem (by rw [← HN.out.1]; omega)⟩
      obtain ⟨y, hy⟩ : ∃ q, Hid (m[j]? = some q) := ⟨_, List.getElem?_eq_getElem (by rw [← HN.out.2]; omega)⟩
      have hc1 := HB.out.at hx.out
      have hc2 := HB'.out.at hy.out
      cases x with
      | false =>
       have hE : Hid (rightA b m = false) := right_place hlt (.inl (atB_some hx.out))
       go_wp2
       go_ret
       exact ⟨ret_bool hE.out.symm, hB0⟩
      | true =>
       cases y with
       | false =>
        have hE : Hid (rightA b m = false) := right_place hlt (.inr (atB_some hy.out))
        go_wp2
        go_ret
        exact ⟨ret_bool hE.out.symm, hB0⟩
       | true =>
        have hnx : Hid (∀ i, i < j + 1 → atB b i = true ∧ atB m i = true) := by
         intro i hi
         by_cases e : i = j
         ·
          rw [e]; exact ⟨atB_some hx.out, atB_some hy.out⟩
         ·
          exact HA.out i (by omega)
        go_wp2
        go_roundw
        case rel => exact ⟨j + 1, by omega, by go_num, hnx.out, by trivial⟩
        case measure => simp [intOf]; omega
     ·
      obtain rfl : j = 10 := by omega
      have hE : Hid (rightA b m = true) := (rightA_iff b m).2 ⟨HN.out.1.symm.trans HN.out.2, by have := HN.out.2; omega, by have := HN.out.2; omega, HA.out⟩
      go_wp2
      go_ret
      exact ⟨ret_bool hE.out.symm, hB0⟩
   ·
    have hE : Hid (rightA b m = false) := right_size (by omega)
    have h1 : ¬ (n : Int) < 24 := by omega
    have h2 : (2048 : Int) < n := by omega
    clear hn hn' hB hB'
    go_enter Try.func18, Try.ntmps18
    go_wp2
    go_ret
    exact ⟨ret_bool hE.out.symm, hB0⟩
  ·
   have hE : Hid (rightA b m = false) := right_size (by omega)
   have h1 : (n : Int) < 24 := by omega
   clear hn hn' hB hB'
   go_enter Try.func18, Try.ntmps18
   go_wp2
   go_ret
   exact ⟨ret_bool hE.out.symm, hB0⟩
 ·
  have hE : Hid (rightA b m = false) := right_lens (by omega)
  have hl' : ((n : Int) == n') = false := by rw [beq_eq_false_iff_ne]; omega
  clear hn hn' hB hB'
  go_enter Try.func18, Try.ntmps18
  go_wp2
  go_ret
  exact ⟨ret_bool hE.out.symm, hB0⟩
end Go.Proofs.Ytpepgpjiddophaa
namespace Go.Proofs.Ytpepgpjiddophaa
namespace Plain
def rightW (bs ns : List Bool) (ps : List ByteArray) (root gen : Int) : Bool :=
 rightA bs ns && decide (ps.length = ns.length) && decide (1 ≤ gen) && decide (gen ≤ 1099511627776) && ps.all (fun s => decide (s.size ≤ 4096)) && (decide (root = 0) || (decide (10 ≤ root) && decide (root < ns.length)))
end Plain
open Go.RowKit Plain
set_option linter.unusedVariables false
theorem readB_few (s : ByteArray) : (readB s).size ≤ 4096 := by
 unfold readB
 by_cases h : readE s = 0
 ·
  rw [if_pos h]
  have hs : s.size ≤ 4096 := by
   by_cases hs : s.size ≤ 4096
   ·
    exact hs
   ·
    rw [readE, if_neg hs] at h; omega
  unfold fB
  rw [ByteArray.size_extract, fullS_size hs]
  omega
 ·
  rw [if_neg h]
  exact Nat.zero_le _
def pageN (s : ByteArray) (gen : Int) (root : Bool) : Option NodeS :=
 if readE s = 0 ∧ readG s ≤ gen ∧ gE (readK s) (readB s) = 0 ∧ rightN (gN (readK s) (readB s)).1 (gN (readK s) (readB s)).2.1 (gN (readK s) (readB s)).2.2.1 (gN (readK s) (readB s)).2.2.2 root = true then some (gN (readK s) (readB s)) else none
def holdsS (ns : List Bool) (ps : List ByteArray) (gen : Int) (block : Int) (root : Bool) : Option NodeS :=
 if 10 ≤ block ∧ block < ns.length ∧ block < ps.length ∧ ns.getD block.toNat false = true then pageN (ps.getD block.toNat ⟨#[]⟩) gen root else none
end Go.Proofs.Ytpepgpjiddophaa
namespace Go.Proofs.Ytpepgpjiddophaa
open Go.RowKit Plain
set_option linter.unusedVariables false
theorem all_more {α : Type} {f : α → Bool} {xs : List α} {j : Nat} {x : α} (hx : xs[j]? = some x) : (xs.take (j + 1)).all f = ((xs.take j).all f && f x) := by
 rw [List.take_add_one, hx]
 simp
theorem holds_right {ns : List Bool} {ps : List ByteArray} {gen block : Int} {rt : Bool} {nd : NodeS} (h : holdsS ns ps gen block rt = some nd) : rightN nd.1 nd.2.1 nd.2.2.1 nd.2.2.2 rt = true := by
 unfold holdsS at h
 split at h
 ·
  unfold pageN at h
  split at h
  ·
   rename_i hh
   cases h
   exact hh.2.2.2
  ·
   cases h
 ·
  cases h
theorem holds_len {ns : List Bool} {ps : List ByteArray} {gen : Int} : ∀ b r (nd : NodeS), holdsS ns ps gen b r = some nd → nd.2.1.length ≤ 9 ∧ nd.2.2.2.length ≤ 10 ∧ (nd.1 = true → nd.2.2.1.length = nd.2.1.length) ∧ (nd.1 = false → nd.2.2.2.length = nd.2.1.length + 1) := by
 intro b r nd h
 obtain ⟨l, ks, vs, cs⟩ := nd
 have hs : standsN l ks vs cs = true := (rightN_iff.1 (holds_right h)).1
 obtain ⟨h9, _, _, _, _, hsh⟩ := standsN_iff.1 hs
 cases l with
 | true =>
  have := shape_leaf.1 hsh
  refine ⟨h9, ?_, fun _ => ?_, fun e => Bool.noConfusion e⟩
  ·
   show cs.length ≤ 10; omega
  ·
   show vs.length = ks.length; omega
 | false =>
  have := shape_inner.1 hsh
  refine ⟨h9, ?_, fun e => Bool.noConfusion e, fun _ => ?_⟩
  ·
   show cs.length ≤ 10; omega
  ·
   show cs.length = ks.length + 1; omega
def treeS (ns : List Bool) (ps : List ByteArray) (root gen : Int) : TreeS := if root = 0 then TreeS.none else belowS (holdsS ns ps gen) 8 TreeS.none root ⟨#[]⟩ ⟨#[]⟩
set_option maxRecDepth 20000 in
set_option maxHeartbeats 2000000 in
theorem refRightW_any (a a' b : Option Addr) (n c n' c' p f : Nat) (bs ns : List Bool) (ps : List ByteArray) (root gen : Int) (w : World) (hn : n = bs.length) (hn' : n' = ns.length) (hp : p = ps.length) (hB : IsB w a c bs) (hB' : IsB w a' c' ns) (hP : IsS w b f ps) :
  Calls Try.prog 11 #[.agg #[.slice a n c, .slice a' n' c', .slice b p f, .int .i64 root, .int .i64 gen]] w fun e w' => e = .returned (.bool (rightW bs ns ps root gen)) ∧ Below w.heap.size w w' := by
 obtain ⟨W, hW⟩ : ∃ W, W = (w.alloc (.cells #[.slice a n c, .slice a' n' c', .slice b p f, .int .i64 root, .int .i64 gen] 27)).alloc (.cells #[.slice a n c, .slice a' n' c'] 24) := ⟨_, rfl⟩
 have HB : Below w.heap.size w W := by rw [hW]; exact ((Below.refl _ _).alloc (Nat.le_refl _) _).alloc (by simp) _
 have BW : WoodBox W w.heap.size (.slice a n c) (.slice a' n' c') (.slice b p f) (.int .i64 root) (.int .i64 gen) := by rw [hW]; exact (woodBox_new _ _ _ _ _ _ _ rfl).below ((Below.refl _ _).alloc (Nat.le_refl _) _)
 have cA := allocRefRight_any a a' c c' n n' bs ns W hn hn' (hB.below HB) (hB'.below HB)
 have mn : n' ≤ 9223372036854775807 := by rw [hn']; exact Nat.le_trans hB'.1 hB'.2.1
 have mp : p ≤ 9223372036854775807 := by rw [hp]; exact Nat.le_trans hP.1 hP.2.1
 obtain ⟨r, hr⟩ : ∃ r, r = rightW bs ns ps root gen := ⟨_, rfl⟩
 rw [← hr]
 unfold rightW at hr
 have EP : Hid (p = ps.length) := hp
 have EN : Hid (n' = ns.length) := hn'
 have RP : Hid (IsS w b f ps) := hP
 obtain ⟨x0, x1, x2, x3, x4⟩ := id (hW ▸ BW)
 clear hn hn' hp hB hB' hP
 cases hA : rightA bs ns with
 | false =>
  rw [hA] at hr cA
  replace hr : r = false := by rw [hr]; simp
  clear hA
  go_enter Try.func11, Try.ntmps11
  go_wp2_with (go_at_call 18; rw [← hW]; refine cA.mono ?_; rintro y w1 ⟨rfl, hb⟩; replace HB := Below.tr HB hb; replace BW := BW.below hb; clear x0 x1 x2 x3 x4; obtain ⟨x0, x1, x2, x3, x4⟩ := id BW; clear hb)
  go_ret
  exact ⟨by rw [hr]; rfl, HB⟩
 | true =>
  rw [hA] at hr cA
  clear hA
  by_cases h1 : p = n'
  ·
   by_cases h2 : 1 ≤ gen
   ·
    have h2' : ¬ gen < 1 := by omega
    by_cases h3 : gen ≤ 1099511627776
    ·
     have h3' : ¬ 1099511627776 < gen := by omega
     have hr1 : Hid (r = (ps.all (fun s => decide (s.size ≤ 4096)) && (decide (root = 0) || (decide (10 ≤ root) && decide (root < ns.length))))) := by
      show _ = _
      rw [hr, decide_eq_true (show ps.length = ns.length by rw [← EP.out, ← EN.out]; exact h1), decide_eq_true h2, decide_eq_true h3]
      rfl
     have h1' : ((p : Int) != n') = false := by simp [h1]
     clear hr h1
     go_enter Try.func11, Try.ntmps11
     go_wp2_with (go_at_call 18; rw [← hW]; refine cA.mono ?_; rintro y w1 ⟨rfl, hb⟩; replace HB := Below.tr HB hb; replace BW := BW.below hb; clear x0 x1 x2 x3 x4; obtain ⟨x0, x1, x2, x3, x4⟩ := id BW; clear hb)
     go_loop [39] (fun v => ∃ j : Nat, j ≤ p ∧ v = .int .i64 j ∧ (ps.take j).all (fun s => decide (s.size ≤ 4096)) = true) (fun v => p - (intOf v).toNat)
     case atStart => exact ⟨0, by omega, rfl, rfl⟩
     case round =>
      obtain ⟨j, hj, rfl, hA⟩ := hrel
      have HA : Hid ((ps.take j).all (fun s => decide (s.size ≤ 4096)) = true) := hA
      clear hA
      by_cases hlt : j < p
      ·
       have hlt' : (j : Int) < p := by omega
       obtain ⟨s, hs⟩ : ∃ x, Hid (ps[j]? = some x) := get_some (by rw [← EP.out]; exact hlt)
       obtain ⟨b1, o1, rfl, -, hc0, hss⟩ := RP.out.2.2 j s hs.out
       have hc := cell_below HB hc0
       clear hc0
       by_cases hsz : s.size ≤ 4096
       ·
        have hsz' : ¬ (4096 : Int) < s.size := by omega
        go_wp2
        go_round
        case rel => exact ⟨j + 1, by omega, by go_num, by rw [all_more hs.out, HA.out, decide_eq_true hsz]; rfl⟩
        case measure => simp [intOf]; omega
       ·
        have hsz' : (4096 : Int) < s.size := by omega
        have hrf : Hid (r = false) := by
         show _ = _
         rw [hr1.out, List.all_eq_false.2 ⟨s, List.mem_of_getElem? hs.out, by simpa using hsz⟩]
         rfl
        go_wp2
        go_ret
        exact ⟨by rw [hrf.out]; rfl, HB⟩
      ·
       obtain rfl : p = j := by omega
       have hj0 : ¬ (p : Int) < p := by omega
       have hall : ps.all (fun s => decide (s.size ≤ 4096)) = true := by
        have := HA.out
        rw [EP.out, List.take_length] at this
        exact this
       by_cases hr0 : root = 0
       ·
        have hrf : Hid (r = true) := by show _ = _; rw [hr1.out, hall, decide_eq_true hr0]; rfl
        clear hall
        subst hr0
        go_wp2
        go_ret
        exact ⟨by rw [hrf.out]; rfl, HB⟩
       ·
        have hr00 : (root == 0) = false := by simpa using hr0
        by_cases hr10 : 10 ≤ root
        ·
         have hr10' : ¬ root < 10 := by omega
         have hrf : Hid (r = decide (root < (n' : Int))) := by show _ = _; rw [hr1.out, hall, decide_eq_false hr0, decide_eq_true hr10, EN.out]; rfl
         clear hall
         go_wp2
         go_ret
         exact ⟨by rw [hrf.out]; rfl, HB⟩
        ·
         have hr10' : root < 10 := by omega
         have hrf : Hid (r = false) := by show _ = _; rw [hr1.out, hall, decide_eq_false hr0, decide_eq_false hr10]; rfl
         clear hall
         go_wp2
         go_ret
         exact ⟨by rw [hrf.out]; rfl, HB⟩
    ·
     have h3' : 1099511627776 < gen := by omega
     have h1' : ((p : Int) != n') = false := by simp [h1]
     replace hr : r = false := by rw [hr, decide_eq_false h3]; simp
     clear h1
     go_enter Try.func11, Try.ntmps11
     go_wp2_with (go_at_call 18; rw [← hW]; refine cA.mono ?_; rintro y w1 ⟨rfl, hb⟩; replace HB := Below.tr HB hb; replace BW := BW.below hb; clear x0 x1 x2 x3 x4; obtain ⟨x0, x1, x2, x3, x4⟩ := id BW; clear hb)
     go_ret
     exact ⟨by rw [hr]; rfl, HB⟩
   ·
    have h2' : gen < 1 := by omega
    have h1' : ((p : Int) != n') = false := by simp [h1]
    replace hr : r = false := by rw [hr, decide_eq_false h2]; simp
    clear h1
    go_enter Try.func11, Try.ntmps11
    go_wp2_with (go_at_call 18; rw [← hW]; refine cA.mono ?_; rintro y w1 ⟨rfl, hb⟩; replace HB := Below.tr HB hb; replace BW := BW.below hb; clear x0 x1 x2 x3 x4; obtain ⟨x0, x1, x2, x3, x4⟩ := id BW; clear hb)
    go_ret
    exact ⟨by rw [hr]; rfl, HB⟩
  ·
   have h1' : ((p : Int) != n') = true := by simp; omega
   replace hr : r = false := by rw [hr, decide_eq_false (show ¬ ps.length = ns.length by rw [← EP.out, ← EN.out]; exact h1)]; simp
   go_enter Try.func11, Try.ntmps11
   go_wp2_with (go_at_call 18; rw [← hW]; refine cA.mono ?_; rintro y w1 ⟨rfl, hb⟩; replace HB := Below.tr HB hb; replace BW := BW.below hb; clear x0 x1 x2 x3 x4; obtain ⟨x0, x1, x2, x3, x4⟩ := id BW; clear hb)
   go_ret
   exact ⟨by rw [hr]; rfl, HB⟩
set_option maxRecDepth 20000 in
theorem haveRoom_any (b : Option Addr) (p f : Nat) (ps : List ByteArray) (w : World) (hp : p = ps.length) (hP : IsS w b f ps) :
  Calls Try.prog 23 #[.slice b p f] w fun e w' => e = .returned (.bool (ps.all fun s => decide (s.size ≤ 4096))) ∧ Below w.heap.size w w' := by
 have mp : p ≤ 9223372036854775807 := by rw [hp]; exact Nat.le_trans hP.1 hP.2.1
 have EP : Hid (p = ps.length) := hp
 have RP : Hid (IsS w b f ps) := hP
 have HB : Below w.heap.size w w := Below.refl _ _
 obtain ⟨r, hr⟩ : ∃ r, Hid (r = ps.all fun s => decide (s.size ≤ 4096)) := ⟨_, rfl⟩
 rw [← hr.out]
 clear hp hP
 go_enter Try.func23, Try.ntmps23
 go_wp2
 go_loop [7] (fun v => ∃ j : Nat, j ≤ p ∧ v = .int .i64 j ∧ (ps.take j).all (fun s => decide (s.size ≤ 4096)) = true) (fun v => p - (intOf v).toNat)
 case atStart => exact ⟨0, by omega, rfl, rfl⟩
 case round =>
  obtain ⟨j, hj, rfl, hA⟩ := hrel
  have HA : Hid ((ps.take j).all (fun s => decide (s.size ≤ 4096)) = true) := hA
  clear hA
  by_cases hlt : j < p
  ·
   have hlt' : (j : Int) < p := by omega
   obtain ⟨s, hs⟩ : ∃ x, Hid (ps[j]? = some x) := get_some (by rw [← EP.out]; exact hlt)
   obtain ⟨b1, o1, rfl, -, hc, hss⟩ := RP.out.2.2 j s hs.out
   by_cases hsz : s.size ≤ 4096
   ·
    have hsz' : ¬ (4096 : Int) < s.size := by omega
    go_wp2
    go_round
    case rel => exact ⟨j + 1, by omega, by go_num, by rw [all_more hs.out, HA.out, decide_eq_true hsz]; rfl⟩
    case measure => simp [intOf]; omega
   ·
    have hsz' : (4096 : Int) < s.size := by omega
    have hrf : Hid (r = false) := by
     show _ = _
     rw [hr.out, List.all_eq_false.2 ⟨s, List.mem_of_getElem? hs.out, by simpa using hsz⟩]
    go_wp2
    go_ret
    exact ⟨by rw [hrf.out]; rfl, HB⟩
  ·
   obtain rfl : p = j := by omega
   have hj0 : ¬ (p : Int) < p := by omega
   have hall : Hid (r = true) := by
    show _ = _
    have := HA.out
    rw [EP.out, List.take_length] at this
    rw [hr.out]
    exact this
   go_wp2
   go_ret
   exact ⟨by rw [hall.out]; rfl, HB⟩
set_option maxRecDepth 20000 in
theorem behind_any (a a' b : Option Addr) (n c n' c' p f : Nat) (root gen block : Int) (w : World) (mn : n' ≤ 9223372036854775807) :
  Calls Try.prog 24 #[.agg #[.slice a n c, .slice a' n' c', .slice b p f, .int .i64 root, .int .i64 gen], .int .i64 block] w fun e w' => e = .returned (.bool (decide (10 ≤ block) && decide (block < (n' : Int)))) ∧ Below w.heap.size w w' := by
 have HB : Below w.heap.size w (w.alloc (.cells #[.slice a n c, .slice a' n' c', .slice b p f, .int .i64 root, .int .i64 gen] 27)) := (Below.refl _ _).alloc (Nat.le_refl _) _
 have BW := woodBox_new w (.slice a n c) (.slice a' n' c') (.slice b p f) (.int .i64 root) (.int .i64 gen) 27 rfl
 obtain ⟨x0, x1, x2, x3, x4⟩ := BW
 obtain ⟨r, hr⟩ : ∃ r, r = (decide (10 ≤ block) && decide (block < (n' : Int))) := ⟨_, rfl⟩
 rw [← hr]
 by_cases h1 : 10 ≤ block
 ·
  have hr' : Hid (r = decide (block < (n' : Int))) := by show _ = _; rw [hr, decide_eq_true h1]; rfl
  clear hr
  go_enter Try.func24, Try.ntmps24
  go_wp2
  go_ret
  exact ⟨by rw [hr'.out]; rfl, HB⟩
 ·
  have hr' : Hid (r = false) := by show _ = _; rw [hr, decide_eq_false h1]; rfl
  have h1' : ¬ 10 ≤ block := h1
  clear hr
  go_enter Try.func24, Try.ntmps24
  go_wp2
  go_ret
  exact ⟨by rw [hr'.out]; rfl, HB⟩
set_option maxRecDepth 20000 in
set_option maxHeartbeats 2000000 in
theorem lookRight_any (a a' b : Option Addr) (n c n' c' p f : Nat) (bs ns : List Bool) (ps : List ByteArray) (root gen : Int) (w : World) (hn : n = bs.length) (hn' : n' = ns.length) (hp : p = ps.length) (hB : IsB w a c bs) (hB' : IsB w a' c' ns) (hP : IsS w b f ps) :
  Calls Try.prog 19 #[.agg #[.slice a n c, .slice a' n' c', .slice b p f, .int .i64 root, .int .i64 gen]] w fun e w' => e = .returned (.bool (rightW bs ns ps root gen)) ∧ Below w.heap.size w w' := by
 obtain ⟨W, hW⟩ : ∃ W, W = w.alloc (.cells #[.slice a n c, .slice a' n' c', .slice b p f, .int .i64 root, .int .i64 gen] 27) := ⟨_, rfl⟩
 have HB : Below w.heap.size w W := by rw [hW]; exact (Below.refl _ _).alloc (Nat.le_refl _) _
 have BW : WoodBox W w.heap.size (.slice a n c) (.slice a' n' c') (.slice b p f) (.int .i64 root) (.int .i64 gen) := by rw [hW]; exact woodBox_new _ _ _ _ _ _ _ rfl
 have cA := allocRight_any a a' c c' n n' bs ns W hn hn' (hB.below HB) (hB'.below HB)
 have cH0 : ∀ V, Below w.heap.size w V → Calls Try.prog 23 #[.slice b p f] V fun e w' => e = .returned (.bool (ps.all fun s => decide (s.size ≤ 4096))) ∧ Below V.heap.size V w' := fun V hV => haveRoom_any b p f ps V hp (hP.below hV)
 have mn : n' ≤ 9223372036854775807 := by rw [hn']; exact Nat.le_trans hB'.1 hB'.2.1
 have mp : p ≤ 9223372036854775807 := by rw [hp]; exact Nat.le_trans hP.1 hP.2.1
 have cB0 : ∀ V, Calls Try.prog 24 #[.agg #[.slice a n c, .slice a' n' c', .slice b p f, .int .i64 root, .int .i64 gen], .int .i64 root] V fun e w' => e = .returned (.bool (decide (10 ≤ root) && decide (root < (n' : Int)))) ∧ Below V.heap.size V w' := fun V => behind_any a a' b n c n' c' p f root gen root V mn
 obtain ⟨r, hr⟩ : ∃ r, r = rightW bs ns ps root gen := ⟨_, rfl⟩
 rw [← hr]
 unfold rightW at hr
 rw [← hp, ← hn'] at hr
 obtain ⟨rA, hA⟩ : ∃ x, x = rightA bs ns := ⟨_, rfl⟩
 obtain ⟨rH, hH⟩ : ∃ x, x = ps.all fun s => decide (s.size ≤ 4096) := ⟨_, rfl⟩
 obtain ⟨rB, hBB⟩ : ∃ x, x = (decide (10 ≤ root) && decide (root < (n' : Int))) := ⟨_, rfl⟩
 rw [← hA] at hr cA
 rw [← hH, ← hBB] at hr
 obtain ⟨x0, x1, x2, x3, x4⟩ := id (hW ▸ BW)
 have cH : ∀ V, Below w.heap.size w V → Calls Try.prog 23 #[.slice b p f] V fun e w' => e = .returned (.bool rH) ∧ Below V.heap.size V w' := fun V hV => by rw [hH]; exact cH0 V hV
 have cB : ∀ V, Calls Try.prog 24 #[.agg #[.slice a n c, .slice a' n' c', .slice b p f, .int .i64 root, .int .i64 gen], .int .i64 root] V fun e w' => e = .returned (.bool rB) ∧ Below V.heap.size V w' := fun V => by rw [hBB]; exact cB0 V
 clear hn hn' hp hB hB' hP cH0 cB0 hA hH hBB
 cases rA with
 | false =>
  have hrf : Hid (r = false) := by show _ = _; rw [hr]; simp
  clear hr
  go_enter Try.func19, Try.ntmps19
  go_wp2_with (first
   | (go_at_call 22; rw [← hW]; refine cA.mono ?_; rintro y w1 ⟨rfl, hb⟩; replace HB := Below.tr HB hb; replace BW := BW.below hb; clear x0 x1 x2 x3 x4; obtain ⟨x0, x1, x2, x3, x4⟩ := id BW; clear hb)
   | (go_at_call 23; refine (cH _ HB).mono ?_; rintro y w2 ⟨rfl, hb⟩; replace HB := Below.tr HB hb; replace BW := BW.below hb; clear x0 x1 x2 x3 x4; obtain ⟨x0, x1, x2, x3, x4⟩ := id BW; clear hb)
   | (go_at_call 24; refine (cB _).mono ?_; rintro y w3 ⟨rfl, hb⟩; replace HB := Below.tr HB hb; replace BW := BW.below hb; clear x0 x1 x2 x3 x4; obtain ⟨x0, x1, x2, x3, x4⟩ := id BW; clear hb))
  go_ret
  exact ⟨by rw [hrf.out]; rfl, HB⟩
 | true =>
  by_cases h1 : p = n'
  ·
   have h1' : ((p : Int) == n') = true := by simp [h1]
   replace hr : r = (decide (1 ≤ gen) && decide (gen ≤ 1099511627776) && rH && (decide (root = 0) || rB)) := by rw [hr, decide_eq_true h1]; simp
   clear h1
   cases rH with
   | false =>
    have hrf : Hid (r = false) := by show _ = _; rw [hr]; simp
    clear hr
    go_enter Try.func19, Try.ntmps19
    go_wp2_with (first
     | (go_at_call 22; rw [← hW]; refine cA.mono ?_; rintro y w1 ⟨rfl, hb⟩; replace HB := Below.tr HB hb; replace BW := BW.below hb; clear x0 x1 x2 x3 x4; obtain ⟨x0, x1, x2, x3, x4⟩ := id BW; clear hb)
     | (go_at_call 23; refine (cH _ HB).mono ?_; rintro y w2 ⟨rfl, hb⟩; replace HB := Below.tr HB hb; replace BW := BW.below hb; clear x0 x1 x2 x3 x4; obtain ⟨x0, x1, x2, x3, x4⟩ := id BW; clear hb)
     | (go_at_call 24; refine (cB _).mono ?_; rintro y w3 ⟨rfl, hb⟩; replace HB := Below.tr HB hb; replace BW := BW.below hb; clear x0 x1 x2 x3 x4; obtain ⟨x0, x1, x2, x3, x4⟩ := id BW; clear hb))
    go_ret
    exact ⟨by rw [hrf.out]; rfl, HB⟩
   | true =>
    by_cases h2 : root = 0
    ·
     have h2' : (root == 0) = true := by simp [h2]
     replace hr : r = (decide (1 ≤ gen) && decide (gen ≤ 1099511627776)) := by rw [hr, decide_eq_true h2]; simp
     clear h2
     by_cases h3 : 1 ≤ gen
     ·
      have hrf : Hid (r = decide (gen ≤ 1099511627776)) := by show _ = _; rw [hr, decide_eq_true h3]; rfl
      clear hr
      go_enter Try.func19, Try.ntmps19
      go_wp2_with (first
       | (go_at_call 22; rw [← hW]; refine cA.mono ?_; rintro y w1 ⟨rfl, hb⟩; replace HB := Below.tr HB hb; replace BW := BW.below hb; clear x0 x1 x2 x3 x4; obtain ⟨x0, x1, x2, x3, x4⟩ := id BW; clear hb)
       | (go_at_call 23; refine (cH _ HB).mono ?_; rintro y w2 ⟨rfl, hb⟩; replace HB := Below.tr HB hb; replace BW := BW.below hb; clear x0 x1 x2 x3 x4; obtain ⟨x0, x1, x2, x3, x4⟩ := id BW; clear hb)
       | (go_at_call 24; refine (cB _).mono ?_; rintro y w3 ⟨rfl, hb⟩; replace HB := Below.tr HB hb; replace BW := BW.below hb; clear x0 x1 x2 x3 x4; obtain ⟨x0, x1, x2, x3, x4⟩ := id BW; clear hb))
      go_ret
      exact ⟨by rw [hrf.out]; rfl, HB⟩
     ·
      have hrf : Hid (r = false) := by show _ = _; rw [hr, decide_eq_false h3]; rfl
      clear hr
      go_enter Try.func19, Try.ntmps19
      go_wp2_with (first
       | (go_at_call 22; rw [← hW]; refine cA.mono ?_; rintro y w1 ⟨rfl, hb⟩; replace HB := Below.tr HB hb; replace BW := BW.below hb; clear x0 x1 x2 x3 x4; obtain ⟨x0, x1, x2, x3, x4⟩ := id BW; clear hb)
       | (go_at_call 23; refine (cH _ HB).mono ?_; rintro y w2 ⟨rfl, hb⟩; replace HB := Below.tr HB hb; replace BW := BW.below hb; clear x0 x1 x2 x3 x4; obtain ⟨x0, x1, x2, x3, x4⟩ := id BW; clear hb)
       | (go_at_call 24; refine (cB _).mono ?_; rintro y w3 ⟨rfl, hb⟩; replace HB := Below.tr HB hb; replace BW := BW.below hb; clear x0 x1 x2 x3 x4; obtain ⟨x0, x1, x2, x3, x4⟩ := id BW; clear hb))
      go_ret
      exact ⟨by rw [hrf.out]; rfl, HB⟩
    ·
     have h2' : (root == 0) = false := by simp [h2]
     replace hr : r = (decide (1 ≤ gen) && decide (gen ≤ 1099511627776) && rB) := by rw [hr, decide_eq_false h2]; simp
     cases rB with
     | false =>
      have hrf : Hid (r = false) := by show _ = _; rw [hr]; simp
      clear hr
      go_enter Try.func19, Try.ntmps19
      go_wp2_with (first
       | (go_at_call 22; rw [← hW]; refine cA.mono ?_; rintro y w1 ⟨rfl, hb⟩; replace HB := Below.tr HB hb; replace BW := BW.below hb; clear x0 x1 x2 x3 x4; obtain ⟨x0, x1, x2, x3, x4⟩ := id BW; clear hb)
       | (go_at_call 23; refine (cH _ HB).mono ?_; rintro y w2 ⟨rfl, hb⟩; replace HB := Below.tr HB hb; replace BW := BW.below hb; clear x0 x1 x2 x3 x4; obtain ⟨x0, x1, x2, x3, x4⟩ := id BW; clear hb)
       | (go_at_call 24; refine (cB _).mono ?_; rintro y w3 ⟨rfl, hb⟩; replace HB := Below.tr HB hb; replace BW := BW.below hb; clear x0 x1 x2 x3 x4; obtain ⟨x0, x1, x2, x3, x4⟩ := id BW; clear hb))
      go_ret
      exact ⟨by rw [hrf.out]; rfl, HB⟩
     | true =>
      by_cases h3 : 1 ≤ gen
      ·
       have hrf : Hid (r = decide (gen ≤ 1099511627776)) := by show _ = _; rw [hr, decide_eq_true h3]; simp
       clear hr
       go_enter Try.func19, Try.ntmps19
       go_wp2_with (first
        | (go_at_call 22; rw [← hW]; refine cA.mono ?_; rintro y w1 ⟨rfl, hb⟩; replace HB := Below.tr HB hb; replace BW := BW.below hb; clear x0 x1 x2 x3 x4; obtain ⟨x0, x1, x2, x3, x4⟩ := id BW; clear hb)
        | (go_at_call 23; refine (cH _ HB).mono ?_; rintro y w2 ⟨rfl, hb⟩; replace HB := Below.tr HB hb; replace BW := BW.below hb; clear x0 x1 x2 x3 x4; obtain ⟨x0, x1, x2, x3, x4⟩ := id BW; clear hb)
        | (go_at_call 24; refine (cB _).mono ?_; rintro y w3 ⟨rfl, hb⟩; replace HB := Below.tr HB hb; replace BW := BW.below hb; clear x0 x1 x2 x3 x4; obtain ⟨x0, x1, x2, x3, x4⟩ := id BW; clear hb))
       go_ret
       exact ⟨by rw [hrf.out]; rfl, HB⟩
      ·
       have hrf : Hid (r = false) := by show _ = _; rw [hr, decide_eq_false h3]; rfl
       clear hr
       go_enter Try.func19, Try.ntmps19
       go_wp2_with (first
        | (go_at_call 22; rw [← hW]; refine cA.mono ?_; rintro y w1 ⟨rfl, hb⟩; replace HB := Below.tr HB hb; replace BW := BW.below hb; clear x0 x1 x2 x3 x4; obtain ⟨x0, x1, x2, x3, x4⟩ := id BW; clear hb)
        | (go_at_call 23; refine (cH _ HB).mono ?_; rintro y w2 ⟨rfl, hb⟩; replace HB := Below.tr HB hb; replace BW := BW.below hb; clear x0 x1 x2 x3 x4; obtain ⟨x0, x1, x2, x3, x4⟩ := id BW; clear hb)
        | (go_at_call 24; refine (cB _).mono ?_; rintro y w3 ⟨rfl, hb⟩; replace HB := Below.tr HB hb; replace BW := BW.below hb; clear x0 x1 x2 x3 x4; obtain ⟨x0, x1, x2, x3, x4⟩ := id BW; clear hb))
       go_ret
       exact ⟨by rw [hrf.out]; rfl, HB⟩
  ·
   have h1' : ((p : Int) == n') = false := by simp; omega
   have hrf : Hid (r = false) := by show _ = _; rw [hr, decide_eq_false h1]; simp
   clear hr h1
   go_enter Try.func19, Try.ntmps19
   go_wp2_with (first
    | (go_at_call 22; rw [← hW]; refine cA.mono ?_; rintro y w1 ⟨rfl, hb⟩; replace HB := Below.tr HB hb; replace BW := BW.below hb; clear x0 x1 x2 x3 x4; obtain ⟨x0, x1, x2, x3, x4⟩ := id BW; clear hb)
    | (go_at_call 23; refine (cH _ HB).mono ?_; rintro y w2 ⟨rfl, hb⟩; replace HB := Below.tr HB hb; replace BW := BW.below hb; clear x0 x1 x2 x3 x4; obtain ⟨x0, x1, x2, x3, x4⟩ := id BW; clear hb)
    | (go_at_call 24; refine (cB _).mono ?_; rintro y w3 ⟨rfl, hb⟩; replace HB := Below.tr HB hb; replace BW := BW.below hb; clear x0 x1 x2 x3 x4; obtain ⟨x0, x1, x2, x3, x4⟩ := id BW; clear hb))
   go_ret
   exact ⟨by rw [hrf.out]; rfl, HB⟩
def WoodIn (V : World) (h : Nat) (a : Option Addr) (n c : Nat) (a' : Option Addr) (n' c' : Nat) (b : Option Addr) (p f : Nat) (bs ns : List Bool) (ps : List ByteArray) (root gen : Int) : Prop :=
 WoodBox V h (.slice a n c) (.slice a' n' c') (.slice b p f) (.int .i64 root) (.int .i64 gen) ∧ n = bs.length ∧ n' = ns.length ∧ p = ps.length ∧ IsB V a c bs ∧ IsB V a' c' ns ∧ IsS V b f ps
theorem WoodIn.below {V V' : World} {h : Nat} {a : Option Addr} {n c : Nat} {a' : Option Addr} {n' c' : Nat} {b : Option Addr} {p f : Nat} {bs ns : List Bool} {ps : List ByteArray} {root gen : Int} (x : WoodIn V h a n c a' n' c' b p f bs ns ps root gen) (hb : Below V.heap.size V V') : WoodIn V' h a n c a' n' c' b p f bs ns ps root gen :=
 ⟨x.1.below hb, x.2.1, x.2.2.1, x.2.2.2.1, x.2.2.2.2.1.below hb, x.2.2.2.2.2.1.below hb, x.2.2.2.2.2.2.below hb⟩
def LoadC (V : World) (x : Ending) (V' : World) (right : Bool) (o : Option NodeS) : Prop :=
 if right = true then (match o with
  | none => Answers V x V' false [] [] [] 81
  | some nd => Answers V x V' nd.1 nd.2.1 nd.2.2.1 nd.2.2.2 0) else Answers V x V' false [] [] [] 1
theorem not_take {ms : List Int} {v x : Int} {j : Nat} (h : ∀ y ∈ ms.take j, ¬ y = v) (hx : ms[j]? = some x) (hne : ¬ v = x) : ∀ y ∈ ms.take (j + 1), ¬ y = v := by
 intro y hy
 rw [List.take_add_one, hx] at hy
 simp at hy
 rcases hy with hy | hy
 ·
  exact h y hy
 ·
  subst hy; exact fun e => hne e.symm
set_option maxHeartbeats 400000 in
theorem index_any (a : Option Addr) (c : Nat) (ms : List Int) (v : Int) (w : World) (hI : IsI w a c ms) :
  Calls Try.prog 61 #[.slice a ms.length c, .int .i64 v] w fun e w' => (∃ r : Int, e = .returned (.int .i64 r) ∧ (decide (0 ≤ r) = decide (v ∈ ms))) ∧ w = w' := by
 have hm : ms.length ≤ 9223372036854775807 := Nat.le_trans hI.1 hI.2.1
 have HI : Hid (IsI w a c ms) := hI
 clear hI
 go_enter Try.func61, Try.ntmps61
 go_wp2
 go_loop [8] (fun u => ∃ j : Nat, j ≤ ms.length ∧ u = .int .i64 j ∧ ∀ y ∈ ms.take j, ¬ y = v) (fun u => ms.length - (intOf u).toNat)
 case atStart => exact ⟨0, by omega, rfl, fun y hy => by simp at hy⟩
 case round =>
  obtain ⟨j, hj, rfl, HA⟩ := hrel
  by_cases hlt : j < ms.length
  ·
   obtain ⟨x, hx⟩ : ∃ x, ms[j]? = some x := ⟨_, List.getElem?_eq_getElem hlt⟩
   obtain ⟨b, o, rfl, hlb, hc⟩ := HI.out.2.2 j x hx
   have hmem : Hid (x ∈ ms) := List.mem_of_getElem? hx
   have hA' : Hid (¬ v = x → ∀ y ∈ ms.take (j + 1), ¬ y = v) := not_take HA hx
   clear HA hx hlb
   have hlt' : (j : Int) < ms.length := by omega
   by_cases he : v = x
   ·
    subst he
    go_wp2
    go_ret
    exact ⟨⟨j, rfl, by simpa using hmem.out⟩, rfl⟩
   ·
    have he' : (v == x) = false := by simpa using he
    go_wp2
    go_round
    case rel => exact ⟨j + 1, by omega, by go_num, hA'.out he⟩
    case measure => simp [intOf]; omega
  ·
   obtain rfl : j = ms.length := by omega
   rw [List.take_length] at HA
   have HB : Hid (¬ v ∈ ms) := fun h => HA v h rfl
   clear HA hj hlt
   go_wp2
   go_ret
   exact ⟨⟨-1, rfl, by simpa using HB.out⟩, rfl⟩
theorem contains_any (a : Option Addr) (c : Nat) (ms : List Int) (v : Int) (w : World) (hI : IsI w a c ms) :
  Calls Try.prog 50 #[.slice a ms.length c, .int .i64 v] w fun e w' => e = .returned (.bool (decide (v ∈ ms))) ∧ w = w' := by
 have c1 := index_any a c ms v w hI
 obtain ⟨n, hn⟩ : ∃ n, n = ms.length := ⟨_, rfl⟩
 rw [← hn] at c1 ⊢
 clear hI hn
 go_enter Try.func50, Try.ntmps50
 go_wp2_with (go_at_call 61; refine c1.mono ?_; rintro e w1 ⟨⟨r, rfl, hr⟩, rfl⟩; have hr' : Hid _ := hr; clear hr)
 go_ret
 exact ⟨ret_bool hr'.out, rfl⟩
def wantE (s : ByteArray) (ms : List Int) : Int := if readE s = 0 then (if readK s ∈ ms then 0 else 40) else readE s
def wantK (s : ByteArray) (ms : List Int) : Int := if wantE s ms = 0 then readK s else 0
def wantG (s : ByteArray) (ms : List Int) : Int := if wantE s ms = 0 then readG s else 0
def wantB (s : ByteArray) (ms : List Int) : ByteArray := if wantE s ms = 0 then readB s else ⟨#[]⟩
set_option maxHeartbeats 1000000 in
theorem want_any (s : ByteArray) (a : Option Addr) (c : Nat) (ms : List Int) (w : World) (hs : s.size ≤ maxLen) (hI : IsI w a c ms) :
  Calls Try.prog 39 #[.string s, .slice a ms.length c] w fun e w' => e = .returned (.tuple #[.agg #[.int .i64 (wantK s ms), .int .i64 (wantG s ms), .string (wantB s ms)], .int .i64 (wantE s ms)]) ∧ Below w.heap.size w w' := by
 have c1 := fun W => pageGet_any s W hs
 obtain ⟨E, hE⟩ : ∃ E, E = readE s := ⟨_, rfl⟩
 obtain ⟨K, hK⟩ : ∃ K, K = readK s := ⟨_, rfl⟩
 obtain ⟨G, hG⟩ : ∃ G, G = readG s := ⟨_, rfl⟩
 obtain ⟨B, hB⟩ : ∃ B, B = readB s := ⟨_, rfl⟩
 have c2 : ∀ W, Below w.heap.size w W → Calls Try.prog 50 #[.slice a ms.length c, .int .i64 K] W fun e w' => e = .returned (.bool (decide (K ∈ ms))) ∧ W = w' :=
  fun W hW => contains_any a c ms K W (hI.below hW)
 have xE : wantE s ms = if E = 0 then (if K ∈ ms then 0 else 40) else E := by rw [hE, hK]; rfl
 have xK : wantK s ms = if wantE s ms = 0 then K else 0 := by rw [hK]; rfl
 have xG : wantG s ms = if wantE s ms = 0 then G else 0 := by rw [hG]; rfl
 have xB : wantB s ms = if wantE s ms = 0 then B else ⟨#[]⟩ := by rw [hB]; rfl
 rw [← hE, ← hK, ← hG, ← hB] at c1
 clear hE hK hG hB hI
 obtain ⟨n, hn⟩ : ∃ n, n = ms.length := ⟨_, rfl⟩
 rw [← hn] at c2 ⊢
 clear hn
 obtain ⟨rE, hrE⟩ : ∃ r, r = wantE s ms := ⟨_, rfl⟩
 obtain ⟨rK, hrK⟩ : ∃ r, r = wantK s ms := ⟨_, rfl⟩
 obtain ⟨rG, hrG⟩ : ∃ r, r = wantG s ms := ⟨_, rfl⟩
 obtain ⟨rB, hrB⟩ : ∃ r, r = wantB s ms := ⟨_, rfl⟩
 rw [← hrE, ← hrK, ← hrG, ← hrB]
 rw [← hrE] at xE xK xG xB
 rw [← hrK] at xK
 rw [← hrG] at xG
 rw [← hrB] at xB
 clear hrE hrK hrG hrB
 by_cases h0 : E = 0
 ·
  rw [if_pos h0] at xE
  by_cases hm : K ∈ ms
  ·
   rw [if_pos hm] at xE
   rw [xE] at xK xG xB ⊢
   rw [show rK = K from xK, show rG = G from xG, show rB = B from xB]
   have hd : ∀ W, Below w.heap.size w W → Calls Try.prog 50 #[.slice a n c, .int .i64 K] W fun e w' => e = .returned (.bool true) ∧ W = w' := by
    intro W hW; have := c2 W hW; rwa [decide_eq_true hm] at this
   clear xE xK xG xB c2 hm
   subst h0
   go_enter Try.func39, Try.ntmps39
   go_wp2_with (first
    | (go_at_call 49; refine (c1 _).mono ?_; rintro e w1 ⟨rfl, hb⟩; have hB := below_box hb; obtain ⟨⟨q0, q1, q2⟩, f0, f1, f2⟩ := ((box3_new _ _ _ _ _).below hb).alloc (.cells #[.int .i64 K, .int .i64 G, .string B] 78); replace hB := hB.alloc hB.size (.cells #[.int .i64 K, .int .i64 G, .string B] 78); clear hb)
    | (go_at_call 50; refine (hd _ hB).mono ?_; rintro e w2 ⟨rfl, rfl⟩))
   obtain ⟨z0, z1, z2⟩ := set3_cells (v0 := .int .i64 K) (v1 := .int .i64 G) (v2 := .string B) q0 q1 q2
   exact bodyPost_ret (v := .tuple #[.agg #[.int .i64 K, .int .i64 G, .string B], .int .i64 0]) (by simp [results, Try.results39, go_sem, z0, z1, z2]) rfl ⟨rfl, below_set3 hB (Nat.le_refl _)⟩
  ·
   rw [if_neg hm] at xE
   rw [xE] at xK xG xB ⊢
   rw [show rK = 0 from xK, show rG = 0 from xG, show rB = ⟨#[]⟩ from xB]
   have hd : ∀ W, Below w.heap.size w W → Calls Try.prog 50 #[.slice a n c, .int .i64 K] W fun e w' => e = .returned (.bool false) ∧ W = w' := by
    intro W hW; have := c2 W hW; rwa [decide_eq_false hm] at this
   clear xE xK xG xB c2 hm
   subst h0
   go_enter Try.func39, Try.ntmps39
   go_wp2_with (first
    | (go_at_call 49; refine (c1 _).mono ?_; rintro e w1 ⟨rfl, hb⟩; have hB := below_box hb; obtain ⟨⟨q0, q1, q2⟩, f0, f1, f2⟩ := ((box3_new _ _ _ _ _).below hb).alloc (.cells #[.int .i64 K, .int .i64 G, .string B] 78); replace hB := hB.alloc hB.size (.cells #[.int .i64 K, .int .i64 G, .string B] 78); clear hb)
    | (go_at_call 50; refine (hd _ hB).mono ?_; rintro e w2 ⟨rfl, rfl⟩))
   obtain ⟨z0, z1, z2⟩ := set3_cells (v0 := .int .i64 0) (v1 := .int .i64 0) (v2 := .string ⟨#[]⟩) q0 q1 q2
   exact bodyPost_ret (v := .tuple #[.agg #[.int .i64 0, .int .i64 0, .string ⟨#[]⟩], .int .i64 40]) (by simp [results, Try.results39, go_sem, z0, z1, z2]) rfl ⟨rfl, below_set3 hB (Nat.le_refl _)⟩
 ·
  rw [if_neg h0] at xE
  rw [if_neg (by rw [xE]; exact h0)] at xK xG xB
  rw [xK, xG, xB, xE]
  clear xE xK xG xB c2
  have h0' : (E == 0) = false := by simpa using h0
  go_enter Try.func39, Try.ntmps39
  go_wp2_with (first
   | (go_at_call 49; refine (c1 _).mono ?_; rintro e w1 ⟨rfl, hb⟩; have hB := below_box hb; obtain ⟨⟨q0, q1, q2⟩, f0, f1, f2⟩ := ((box3_new _ _ _ _ _).below hb).alloc (.cells #[.int .i64 K, .int .i64 G, .string B] 78); replace hB := hB.alloc hB.size (.cells #[.int .i64 K, .int .i64 G, .string B] 78); clear hb))
  obtain ⟨z0, z1, z2⟩ := set3_cells (v0 := .int .i64 0) (v1 := .int .i64 0) (v2 := .string ⟨#[]⟩) q0 q1 q2
  exact bodyPost_ret (v := .tuple #[.agg #[.int .i64 0, .int .i64 0, .string ⟨#[]⟩], .int .i64 E]) (by simp [results, Try.results39, go_sem, z0, z1, z2]) rfl ⟨rfl, below_set3 hB (Nat.le_refl _)⟩
theorem isI_pair (W : World) (m n : Int) : IsI (W.alloc (.cells #[.int .i64 m, .int .i64 n] 3)) (some ⟨W.heap.size, 0, none⟩) 2 [m, n] := by
 refine ⟨Nat.le_refl _, by decide, fun j x hx => ⟨W.heap.size, 0, rfl, by simp, ?_⟩⟩
 match j, hx with
 | 0, hx => simp at hx; subst hx; exact World.cell?_alloc_at _ _ _ _ rfl
 | 1, hx => simp at hx; subst hx; exact World.cell?_alloc_at _ _ _ _ rfl
theorem gE_kind {K : Int} {s : ByteArray} (h : ¬ K ∈ [(1 : Int), 2]) : gE K s = 81 := by
 unfold gE nodeR
 simp at h
 rw [if_neg h.1, if_neg h.2]
theorem pageN_want (s : ByteArray) (gen : Int) (rt : Bool) : pageN s gen rt = if wantE s [1, 2] = 0 ∧ wantG s [1, 2] ≤ gen ∧ gE (wantK s [1, 2]) (wantB s [1, 2]) = 0 ∧ rightN (gN (wantK s [1, 2]) (wantB s [1, 2])).1 (gN (wantK s [1, 2]) (wantB s [1, 2])).2.1 (gN (wantK s [1, 2]) (wantB s [1, 2])).2.2.1 (gN (wantK s [1, 2]) (wantB s [1, 2])).2.2.2 rt = true then some (gN (wantK s [1, 2]) (wantB s [1, 2])) else none := by
 by_cases h0 : readE s = 0
 ·
  by_cases h1 : readK s ∈ [(1 : Int), 2]
  ·
   have hE : wantE s [1, 2] = 0 := by unfold wantE; rw [if_pos h0, if_pos h1]
   have hK : wantK s [1, 2] = readK s := by unfold wantK; rw [if_pos hE]
   have hG : wantG s [1, 2] = readG s := by unfold wantG; rw [if_pos hE]
   have hB : wantB s [1, 2] = readB s := by unfold wantB; rw [if_pos hE]
   rw [hE, hK, hG, hB]
   unfold pageN
   rw [h0]
  ·
   have hE : wantE s [1, 2] = 40 := by unfold wantE; rw [if_pos h0, if_neg h1]
   unfold pageN
   rw [if_neg (fun h => by rw [gE_kind h1] at h; exact absurd h.2.2.1 (by decide)), if_neg (fun h => by rw [hE] at h; exact absurd h.1 (by decide))]
 ·
  have hE : wantE s [1, 2] = readE s := by unfold wantE; rw [if_neg h0]
  unfold pageN
  rw [if_neg (fun h => h0 h.1), if_neg (fun h => h0 (by rw [← hE]; exact h.1))]
theorem wantB_few (s : ByteArray) (ms : List Int) : (wantB s ms).size ≤ maxLen := by
 unfold wantB
 split
 ·
  exact Nat.le_trans (readB_few s) (by unfold maxLen; omega)
 ·
  exact Nat.zero_le _
set_option maxRecDepth 20000 in
set_option maxHeartbeats 4000000 in
theorem load_any (h : Nat) (a a' b : Option Addr) (n c n' c' p f : Nat) (ns : List Bool) (ps : List ByteArray) (root gen block : Int) (rt : Bool) (V : World) (hn' : n' = ns.length) (hp : p = ps.length) (hpn : p = n') (BV : WoodBox V h (.slice a n c) (.slice a' n' c') (.slice b p f) (.int .i64 root) (.int .i64 gen)) (hB' : IsB V a' c' ns) (hP : IsS V b f ps) :
  Calls Try.prog 33 #[.pointer (some ⟨h, 0, none⟩), .int .i64 block, .bool rt] V fun x V' => LoadC V x V' true (holdsS ns ps gen block rt) := by
 obtain ⟨W, hW⟩ : ∃ W, W = V.alloc (.cells #[.bool false, .slice none 0 0, .slice none 0 0, .slice none 0 0] 62) := ⟨_, rfl⟩
 have HB : Below V.heap.size V W := by rw [hW]; exact (Below.refl _ _).alloc (Nat.le_refl _) _
 have BR : Box4 W V.heap.size (.bool false) (.slice none 0 0) (.slice none 0 0) (.slice none 0 0) := by rw [hW]; exact box4_new _ _ _ _ _ _ rfl
 have BW := BV.below HB
 have mn : n' ≤ 9223372036854775807 := by rw [hn']; exact Nat.le_trans hB'.1 hB'.2.1
 have cB0 : ∀ U, Calls Try.prog 24 #[.agg #[.slice a n c, .slice a' n' c', .slice b p f, .int .i64 root, .int .i64 gen], .int .i64 block] U fun e w' => e = .returned (.bool (decide (10 ≤ block) && decide (block < (n' : Int)))) ∧ Below U.heap.size U w' := fun U => behind_any a a' b n c n' c' p f root gen block U mn
 obtain ⟨O, hO'⟩ : ∃ O, O = holdsS ns ps gen block rt := ⟨_, rfl⟩
 rw [← hO']
 obtain ⟨⟨r0, r1, r2, r3⟩, f0, f1, f2, f3⟩ := id (hW ▸ BR)
 obtain ⟨x0, x1, x2, x3, x4⟩ := id (hW ▸ BW)
 by_cases hin : 10 ≤ block ∧ block < n'
 ·
  have cB : ∀ U, Calls Try.prog 24 #[.agg #[.slice a n c, .slice a' n' c', .slice b p f, .int .i64 root, .int .i64 gen], .int .i64 block] U fun e w' => e = .returned (.bool true) ∧ Below U.heap.size U w' := fun U => by have := cB0 U; rw [decide_eq_true hin.1, decide_eq_true hin.2] at this; exact this
  obtain ⟨h10, hl1⟩ := hin
  obtain ⟨i, rfl⟩ : ∃ i : Nat, block = i := ⟨block.toNat, by omega⟩
  have hi1 : i < ns.length := by omega
  have hi2 : i < ps.length := by omega
  obtain ⟨nw, hgn⟩ : ∃ s, ns[i]? = some s := ⟨_, List.getElem?_eq_getElem hi1⟩
  obtain ⟨s, hs⟩ : ∃ s, ps[i]? = some s := ⟨_, List.getElem?_eq_getElem hi2⟩
  have hO1 : O = if nw = true then pageN s gen rt else none := by
   rw [hO']
   unfold holdsS
   simp only [Int.toNat_natCast, List.getD_eq_getElem?_getD, hgn, hs, Option.getD_some]
   by_cases hh : nw = true
   ·
    rw [if_pos ⟨h10, by omega, by omega, hh⟩, if_pos hh]
   ·
    rw [if_neg (fun x => hh x.2.2.2), if_neg hh]
  obtain ⟨b1, o1, rfl, hlb1, hc1⟩ := hB'.2.2 i nw hgn
  obtain ⟨b2, o2, rfl, hlb2, hc2, hss⟩ := hP.2.2 i s hs
  have z1 := cell_below HB hc1
  have z2 := cell_below HB hc2
  have k4 : (i : Int) < n' := by omega
  have k5 : (i : Int) < p := by omega
  have cW0 := fun U => want_any s (some ⟨U.heap.size, 0, none⟩) 2 [1, 2] (U.alloc (.cells #[.int .i64 1, .int .i64 2] 3)) hss (isI_pair U 1 2)
  have cG := fun U => nodeGet_any (wantK s [1, 2]) (wantB s [1, 2]) U (wantB_few s _)
  rw [pageN_want] at hO1
  clear hO' hn' hp hpn hB' hP h10 hl1 hi1 hi2 hgn hs hlb1 hlb2 hc1 hc2 hss BV cB0
  obtain ⟨rE, hrE⟩ : ∃ x, x = wantE s [1, 2] := ⟨_, rfl⟩
  obtain ⟨rK, hrK⟩ : ∃ x, x = wantK s [1, 2] := ⟨_, rfl⟩
  obtain ⟨rG, hrG⟩ : ∃ x, x = wantG s [1, 2] := ⟨_, rfl⟩
  obtain ⟨rB, hrB⟩ : ∃ x, x = wantB s [1, 2] := ⟨_, rfl⟩
  rw [← hrE, ← hrK, ← hrG, ← hrB] at hO1
  rw [← hrE, ← hrK, ← hrG, ← hrB] at cW0
  rw [← hrK, ← hrB] at cG
  clear hrE hrK hrG hrB
  have cW : ∀ U, Calls Try.prog 39 #[.string s, .slice (some ⟨U.heap.size, 0, none⟩) 2 2] (U.alloc (.cells #[.int .i64 1, .int .i64 2] 3)) fun e w' => e = .returned (.tuple #[.agg #[.int .i64 rK, .int .i64 rG, .string rB], .int .i64 rE]) ∧ Below U.heap.size U w' := fun U => (cW0 U).mono fun e w' h => ⟨h.1, Below.tr ((Below.refl _ _).alloc (Nat.le_refl _) _) h.2⟩
  clear cW0
  obtain ⟨nE, hnE⟩ : ∃ x, x = gE rK rB := ⟨_, rfl⟩
  obtain ⟨⟨nl, nk, nv, nc⟩, hnd⟩ : ∃ x, x = gN rK rB := ⟨_, rfl⟩
  rw [← hnE, ← hnd] at hO1 cG
  clear hnE hnd
  have cR : ∀ U a1 d1 k1 a2 d2 k2 a3 d3 k3, k1 = nk.length → k2 = nv.length → k3 = nc.length → IsS U a1 d1 nk → IsS U a2 d2 nv → IsI U a3 d3 nc → Calls Try.prog 41 #[.agg #[.bool nl, .slice a1 k1 d1, .slice a2 k2 d2, .slice a3 k3 d3], .bool rt] U fun e w' => e = .returned (.bool (rightN nl nk nv nc rt)) ∧ Below U.heap.size U w' := fun U a1 d1 k1 a2 d2 k2 a3 d3 k3 h1 h2 h3 i1 i2 i3 => nodeRight_any nl a1 a2 a3 d1 d2 d3 k1 k2 k3 nk nv nc rt U h1 h2 h3 i1 i2 i3
  cases nw with
  | false =>
   replace hO1 : O = none := hO1
   clear cW cG cR
   go_enter Try.func33, Try.ntmps33
   go_wp2_with (
    (go_at_call 24; rw [← hW]; refine (cB _).mono ?_; rintro y w1 ⟨rfl, hb⟩; replace HB := Below.tr HB hb; replace BR := BR.below hb; replace BW := BW.below hb; replace z1 := cell_below hb z1; replace z2 := cell_below hb z2; clear r0 r1 r2 r3 f0 f1 f2 f3 x0 x1 x2 x3 x4; obtain ⟨⟨r0, r1, r2, r3⟩, f0, f1, f2, f3⟩ := id BR; obtain ⟨x0, x1, x2, x3, x4⟩ := id BW; clear hb))
   refine bodyPost_ret (v := .tuple #[.agg #[.bool false, .slice none 0 0, .slice none 0 0, .slice none 0 0], .int .i64 81]) (by simp [results, Try.results33, go_sem, r0, r1, r2, r3]) rfl ?_
   rw [hO1]
   exact answers_none (below_put4 HB (Nat.le_refl _) _ _ _ _)
  | true =>
   replace hO1 : O = _ := hO1.trans (if_pos rfl)
   by_cases hE : rE = 0
   ·
    subst hE
    by_cases hG : rG ≤ gen
    ·
     have hG' : ¬ gen < rG := by omega
     by_cases hNE : nE = 0
     ·
      subst hNE
      cases hR : rightN nl nk nv nc rt with
      | true =>
       replace hO1 : O = some (nl, nk, nv, nc) := by rw [hO1, if_pos ⟨rfl, hG, rfl, hR⟩]
       rw [hR] at cR
       clear hR hG
       go_enter Try.func33, Try.ntmps33
       go_wp2_with (first
        | (go_at_call 24; rw [← hW]; refine (cB _).mono ?_; rintro y w1 ⟨rfl, hb⟩; replace HB := Below.tr HB hb; replace BR := BR.below hb; replace BW := BW.below hb; replace z1 := cell_below hb z1; replace z2 := cell_below hb z2; clear r0 r1 r2 r3 f0 f1 f2 f3 x0 x1 x2 x3 x4; obtain ⟨⟨r0, r1, r2, r3⟩, f0, f1, f2, f3⟩ := id BR; obtain ⟨x0, x1, x2, x3, x4⟩ := id BW; clear hb)
        | (go_at_call 39; refine (cW _).mono ?_; rintro y w2 ⟨rfl, hb⟩; have hA : Below w2.heap.size w2 (w2.alloc (.cells #[.int .i64 rK, .int .i64 rG, .string rB] 78)) := (Below.refl _ _).alloc (Nat.le_refl _) _; have b3 := box3_new w2 (.int .i64 rK) (.int .i64 rG) (.string rB) 78; replace HB := Below.tr (Below.tr HB hb) hA; replace BR := (BR.below hb).below hA; replace BW := (BW.below hb).below hA; clear z1 z2 r0 r1 r2 r3 f0 f1 f2 f3 x0 x1 x2 x3 x4; obtain ⟨⟨r0, r1, r2, r3⟩, f0, f1, f2, f3⟩ := id BR; obtain ⟨x0, x1, x2, x3, x4⟩ := id BW; obtain ⟨⟨g0, g1, g2⟩, -⟩ := id b3; clear hb hA))
       go_region
       have HU : Below (w2.alloc (.cells #[.int .i64 rK, .int .i64 rG, .string rB] 78)).heap.size (w2.alloc (.cells #[.int .i64 rK, .int .i64 rG, .string rB] 78)) (w2.alloc (.cells #[.int .i64 rK, .int .i64 rG, .string rB] 78)).drew := (Below.refl _ _).drew
       generalize (w2.alloc (.cells #[.int .i64 rK, .int .i64 rG, .string rB] 78)).drew = U at HU ⊢
       replace HB := Below.tr HB HU
       replace BR := BR.below HU
       replace b3 := b3.below HU
       clear r0 r1 r2 r3 f0 f1 f2 f3 x0 x1 x2 x3 x4 g0 g1 g2 BW HU
       obtain ⟨⟨r0, r1, r2, r3⟩, f0, f1, f2, f3⟩ := id BR
       obtain ⟨⟨g0, g1, g2⟩, -⟩ := id b3
       go_wp2_with (first
        | (go_at_call 40; refine (cG _).mono ?_; rintro y w3 ⟨k1, a1, d1, k2, a2, d2, k3, a3, d3, rfl, e1, e2, e3, i1, i2, i3, j1, j2, j3, hb⟩; have hA : Below w3.heap.size w3 (w3.alloc (.cells #[.bool nl, .slice a1 k1 d1, .slice a2 k2 d2, .slice a3 k3 d3] 62)) := (Below.refl _ _).alloc (Nat.le_refl _) _; have b4 := box4_new w3 (.bool nl) (.slice a1 k1 d1) (.slice a2 k2 d2) (.slice a3 k3 d3) 62 rfl; have hlo : V.heap.size + 1 ≤ U.heap.size := (by have := BR.lt; omega); replace HB := Below.tr (Below.tr HB hb) hA; replace BR := (BR.below hb).below hA; clear r0 r1 r2 r3 f0 f1 f2 f3 g0 g1 g2 b3; obtain ⟨⟨r0, r1, r2, r3⟩, f0, f1, f2, f3⟩ := id BR; obtain ⟨⟨m0, m1, m2, m3⟩, -⟩ := id b4; have E : Hid (k1 = nk.length ∧ k2 = nv.length ∧ k3 = nc.length) := ⟨e1, e2, e3⟩; have I : Hid (IsS (w3.alloc (.cells #[.bool nl, .slice a1 k1 d1, .slice a2 k2 d2, .slice a3 k3 d3] 62)) a1 d1 nk ∧ IsS (w3.alloc (.cells #[.bool nl, .slice a1 k1 d1, .slice a2 k2 d2, .slice a3 k3 d3] 62)) a2 d2 nv ∧ IsI (w3.alloc (.cells #[.bool nl, .slice a1 k1 d1, .slice a2 k2 d2, .slice a3 k3 d3] 62)) a3 d3 nc) := ⟨i1.below hA, i2.below hA, i3.below hA⟩; have J : Hid (From (V.heap.size + 1) a1 ∧ From (V.heap.size + 1) a2 ∧ From (V.heap.size + 1) a3) := ⟨j1.mono hlo, j2.mono hlo, j3.mono hlo⟩; clear hb hA hlo e1 e2 e3 i1 i2 i3 j1 j2 j3)
        | (go_at_call 41; refine (cR _ a1 d1 k1 a2 d2 k2 a3 d3 k3 E.out.1 E.out.2.1 E.out.2.2 I.out.1 I.out.2.1 I.out.2.2).mono ?_; rintro y w4 ⟨rfl, hb⟩; replace HB := Below.tr HB hb; replace BR := BR.below hb; replace b4 := b4.below hb; clear r0 r1 r2 r3 f0 f1 f2 f3 m0 m1 m2 m3; obtain ⟨⟨r0, r1, r2, r3⟩, f0, f1, f2, f3⟩ := id BR; obtain ⟨⟨m0, m1, m2, m3⟩, -⟩ := id b4; replace I : Hid (IsS w4 a1 d1 nk ∧ IsS w4 a2 d2 nv ∧ IsI w4 a3 d3 nc) := ⟨I.out.1.below hb, I.out.2.1.below hb, I.out.2.2.below hb⟩; clear hb))
       have T4 := turns_put4 w4 V.heap.size (.bool nl) (.slice a1 k1 d1) (.slice a2 k2 d2) (.slice a3 k3 d3)
       obtain ⟨j1, j2, j3⟩ := J.out
       refine bodyPost_ret (v := .tuple #[.agg #[.bool nl, .slice a1 k1 d1, .slice a2 k2 d2, .slice a3 k3 d3], .int .i64 0]) (by simp [results, Try.results33, go_sem, r0, r1, r2, r3]) rfl ?_
       rw [hO1]
       exact ⟨k1, a1, d1, k2, a2, d2, k3, a3, d3, rfl, E.out.1, E.out.2.1, E.out.2.2, I.out.1.turns T4 (fun x hx e => by have := j1 x hx; omega), I.out.2.1.turns T4 (fun x hx e => by have := j2 x hx; omega), I.out.2.2.turns T4 (fun x hx e => by have := j3 x hx; omega), j1.mono (by omega), j2.mono (by omega), j3.mono (by omega), below_put4 HB (Nat.le_refl _) _ _ _ _⟩
      | false =>
       replace hO1 : O = none := by rw [hO1, if_neg (fun h => by rw [hR] at h; exact absurd h.2.2.2 (by decide))]
       rw [hR] at cR
       clear hR hG
       go_enter Try.func33, Try.ntmps33
       go_wp2_with (first
        | (go_at_call 24; rw [← hW]; refine (cB _).mono ?_; rintro y w1 ⟨rfl, hb⟩; replace HB := Below.tr HB hb; replace BR := BR.below hb; replace BW := BW.below hb; replace z1 := cell_below hb z1; replace z2 := cell_below hb z2; clear r0 r1 r2 r3 f0 f1 f2 f3 x0 x1 x2 x3 x4; obtain ⟨⟨r0, r1, r2, r3⟩, f0, f1, f2, f3⟩ := id BR; obtain ⟨x0, x1, x2, x3, x4⟩ := id BW; clear hb)
        | (go_at_call 39; refine (cW _).mono ?_; rintro y w2 ⟨rfl, hb⟩; have hA : Below w2.heap.size w2 (w2.alloc (.cells #[.int .i64 rK, .int .i64 rG, .string rB] 78)) := (Below.refl _ _).alloc (Nat.le_refl _) _; have b3 := box3_new w2 (.int .i64 rK) (.int .i64 rG) (.string rB) 78; replace HB := Below.tr (Below.tr HB hb) hA; replace BR := (BR.below hb).below hA; replace BW := (BW.below hb).below hA; clear z1 z2 r0 r1 r2 r3 f0 f1 f2 f3 x0 x1 x2 x3 x4; obtain ⟨⟨r0, r1, r2, r3⟩, f0, f1, f2, f3⟩ := id BR; obtain ⟨x0, x1, x2, x3, x4⟩ := id BW; obtain ⟨⟨g0, g1, g2⟩, -⟩ := id b3; clear hb hA))
       go_region
       have HU : Below (w2.alloc (.cells #[.int .i64 rK, .int .i64 rG, .string rB] 78)).heap.size (w2.alloc (.cells #[.int .i64 rK, .int .i64 rG, .string rB] 78)) (w2.alloc (.cells #[.int .i64 rK, .int .i64 rG, .string rB] 78)).drew := (Below.refl _ _).drew
       generalize (w2.alloc (.cells #[.int .i64 rK, .int .i64 rG, .string rB] 78)).drew = U at HU ⊢
       replace HB := Below.tr HB HU
       replace BR := BR.below HU
       replace b3 := b3.below HU
       clear r0 r1 r2 r3 f0 f1 f2 f3 x0 x1 x2 x3 x4 g0 g1 g2 BW HU
       obtain ⟨⟨r0, r1, r2, r3⟩, f0, f1, f2, f3⟩ := id BR
       obtain ⟨⟨g0, g1, g2⟩, -⟩ := id b3
       go_wp2_with (first
        | (go_at_call 40; refine (cG _).mono ?_; rintro y w3 ⟨k1, a1, d1, k2, a2, d2, k3, a3, d3, rfl, e1, e2, e3, i1, i2, i3, j1, j2, j3, hb⟩; have hA : Below w3.heap.size w3 (w3.alloc (.cells #[.bool nl, .slice a1 k1 d1, .slice a2 k2 d2, .slice a3 k3 d3] 62)) := (Below.refl _ _).alloc (Nat.le_refl _) _; have b4 := box4_new w3 (.bool nl) (.slice a1 k1 d1) (.slice a2 k2 d2) (.slice a3 k3 d3) 62 rfl; have hlo : V.heap.size + 1 ≤ U.heap.size := (by have := BR.lt; omega); replace HB := Below.tr (Below.tr HB hb) hA; replace BR := (BR.below hb).below hA; clear r0 r1 r2 r3 f0 f1 f2 f3 g0 g1 g2 b3; obtain ⟨⟨r0, r1, r2, r3⟩, f0, f1, f2, f3⟩ := id BR; obtain ⟨⟨m0, m1, m2, m3⟩, -⟩ := id b4; have E : Hid (k1 = nk.length ∧ k2 = nv.length ∧ k3 = nc.length) := ⟨e1, e2, e3⟩; have I : Hid (IsS (w3.alloc (.cells #[.bool nl, .slice a1 k1 d1, .slice a2 k2 d2, .slice a3 k3 d3] 62)) a1 d1 nk ∧ IsS (w3.alloc (.cells #[.bool nl, .slice a1 k1 d1, .slice a2 k2 d2, .slice a3 k3 d3] 62)) a2 d2 nv ∧ IsI (w3.alloc (.cells #[.bool nl, .slice a1 k1 d1, .slice a2 k2 d2, .slice a3 k3 d3] 62)) a3 d3 nc) := ⟨i1.below hA, i2.below hA, i3.below hA⟩; have J : Hid (From (V.heap.size + 1) a1 ∧ From (V.heap.size + 1) a2 ∧ From (V.heap.size + 1) a3) := ⟨j1.mono hlo, j2.mono hlo, j3.mono hlo⟩; clear hb hA hlo e1 e2 e3 i1 i2 i3 j1 j2 j3)
        | (go_at_call 41; refine (cR _ a1 d1 k1 a2 d2 k2 a3 d3 k3 E.out.1 E.out.2.1 E.out.2.2 I.out.1 I.out.2.1 I.out.2.2).mono ?_; rintro y w4 ⟨rfl, hb⟩; replace HB := Below.tr HB hb; replace BR := BR.below hb; replace b4 := b4.below hb; clear r0 r1 r2 r3 f0 f1 f2 f3 m0 m1 m2 m3; obtain ⟨⟨r0, r1, r2, r3⟩, f0, f1, f2, f3⟩ := id BR; obtain ⟨⟨m0, m1, m2, m3⟩, -⟩ := id b4; replace I : Hid (IsS w4 a1 d1 nk ∧ IsS w4 a2 d2 nv ∧ IsI w4 a3 d3 nc) := ⟨I.out.1.below hb, I.out.2.1.below hb, I.out.2.2.below hb⟩; clear hb))
       refine bodyPost_ret (v := .tuple #[.agg #[.bool false, .slice none 0 0, .slice none 0 0, .slice none 0 0], .int .i64 81]) (by simp [results, Try.results33, go_sem, r0, r1, r2, r3]) rfl ?_
       rw [hO1]
       exact answers_none (below_put4 HB (Nat.le_refl _) _ _ _ _)
     ·
      have hNE' : (nE != 0) = true := by simpa using hNE
      replace hO1 : O = none := by rw [hO1, if_neg (fun h => hNE h.2.2.1)]
      clear hG
      go_enter Try.func33, Try.ntmps33
      go_wp2_with (first
       | (go_at_call 24; rw [← hW]; refine (cB _).mono ?_; rintro y w1 ⟨rfl, hb⟩; replace HB := Below.tr HB hb; replace BR := BR.below hb; replace BW := BW.below hb; replace z1 := cell_below hb z1; replace z2 := cell_below hb z2; clear r0 r1 r2 r3 f0 f1 f2 f3 x0 x1 x2 x3 x4; obtain ⟨⟨r0, r1, r2, r3⟩, f0, f1, f2, f3⟩ := id BR; obtain ⟨x0, x1, x2, x3, x4⟩ := id BW; clear hb)
       | (go_at_call 39; refine (cW _).mono ?_; rintro y w2 ⟨rfl, hb⟩; have hA : Below w2.heap.size w2 (w2.alloc (.cells #[.int .i64 rK, .int .i64 rG, .string rB] 78)) := (Below.refl _ _).alloc (Nat.le_refl _) _; have b3 := box3_new w2 (.int .i64 rK) (.int .i64 rG) (.string rB) 78; replace HB := Below.tr (Below.tr HB hb) hA; replace BR := (BR.below hb).below hA; replace BW := (BW.below hb).below hA; clear z1 z2 r0 r1 r2 r3 f0 f1 f2 f3 x0 x1 x2 x3 x4; obtain ⟨⟨r0, r1, r2, r3⟩, f0, f1, f2, f3⟩ := id BR; obtain ⟨x0, x1, x2, x3, x4⟩ := id BW; obtain ⟨⟨g0, g1, g2⟩, -⟩ := id b3; clear hb hA))
      go_region
      have HU : Below (w2.alloc (.cells #[.int .i64 rK, .int .i64 rG, .string rB] 78)).heap.size (w2.alloc (.cells #[.int .i64 rK, .int .i64 rG, .string rB] 78)) (w2.alloc (.cells #[.int .i64 rK, .int .i64 rG, .string rB] 78)).drew := (Below.refl _ _).drew
      generalize (w2.alloc (.cells #[.int .i64 rK, .int .i64 rG, .string rB] 78)).drew = U at HU ⊢
      replace HB := Below.tr HB HU
      replace BR := BR.below HU
      replace b3 := b3.below HU
      clear r0 r1 r2 r3 f0 f1 f2 f3 x0 x1 x2 x3 x4 g0 g1 g2 BW HU
      obtain ⟨⟨r0, r1, r2, r3⟩, f0, f1, f2, f3⟩ := id BR
      obtain ⟨⟨g0, g1, g2⟩, -⟩ := id b3
      go_wp2_with (
       (go_at_call 40; refine (cG _).mono ?_; rintro y w3 ⟨k1, a1, d1, k2, a2, d2, k3, a3, d3, rfl, e1, e2, e3, i1, i2, i3, j1, j2, j3, hb⟩; have hA : Below w3.heap.size w3 (w3.alloc (.cells #[.bool nl, .slice a1 k1 d1, .slice a2 k2 d2, .slice a3 k3 d3] 62)) := (Below.refl _ _).alloc (Nat.le_refl _) _; have b4 := box4_new w3 (.bool nl) (.slice a1 k1 d1) (.slice a2 k2 d2) (.slice a3 k3 d3) 62 rfl; have hlo : V.heap.size + 1 ≤ U.heap.size := (by have := BR.lt; omega); replace HB := Below.tr (Below.tr HB hb) hA; replace BR := (BR.below hb).below hA; clear r0 r1 r2 r3 f0 f1 f2 f3 g0 g1 g2 b3; obtain ⟨⟨r0, r1, r2, r3⟩, f0, f1, f2, f3⟩ := id BR; obtain ⟨⟨m0, m1, m2, m3⟩, -⟩ := id b4; have E : Hid (k1 = nk.length ∧ k2 = nv.length ∧ k3 = nc.length) := ⟨e1, e2, e3⟩; have I : Hid (IsS (w3.alloc (.cells #[.bool nl, .slice a1 k1 d1, .slice a2 k2 d2, .slice a3 k3 d3] 62)) a1 d1 nk ∧ IsS (w3.alloc (.cells #[.bool nl, .slice a1 k1 d1, .slice a2 k2 d2, .slice a3 k3 d3] 62)) a2 d2 nv ∧ IsI (w3.alloc (.cells #[.bool nl, .slice a1 k1 d1, .slice a2 k2 d2, .slice a3 k3 d3] 62)) a3 d3 nc) := ⟨i1.below hA, i2.below hA, i3.below hA⟩; have J : Hid (From (V.heap.size + 1) a1 ∧ From (V.heap.size + 1) a2 ∧ From (V.heap.size + 1) a3) := ⟨j1.mono hlo, j2.mono hlo, j3.mono hlo⟩; clear hb hA hlo e1 e2 e3 i1 i2 i3 j1 j2 j3))
      refine bodyPost_ret (v := .tuple #[.agg #[.bool false, .slice none 0 0, .slice none 0 0, .slice none 0 0], .int .i64 81]) (by simp [results, Try.results33, go_sem, r0, r1, r2, r3]) rfl ?_
      rw [hO1]
      exact answers_none (below_put4 HB (Nat.le_refl _) _ _ _ _)
    ·
     have hG' : gen < rG := by omega
     replace hO1 : O = none := by rw [hO1, if_neg (fun h => hG h.2.1)]
     clear hG cG cR
     go_enter Try.func33, Try.ntmps33
     go_wp2_with (first
      | (go_at_call 24; rw [← hW]; refine (cB _).mono ?_; rintro y w1 ⟨rfl, hb⟩; replace HB := Below.tr HB hb; replace BR := BR.below hb; replace BW := BW.below hb; replace z1 := cell_below hb z1; replace z2 := cell_below hb z2; clear r0 r1 r2 r3 f0 f1 f2 f3 x0 x1 x2 x3 x4; obtain ⟨⟨r0, r1, r2, r3⟩, f0, f1, f2, f3⟩ := id BR; obtain ⟨x0, x1, x2, x3, x4⟩ := id BW; clear hb)
      | (go_at_call 39; refine (cW _).mono ?_; rintro y w2 ⟨rfl, hb⟩; have hA : Below w2.heap.size w2 (w2.alloc (.cells #[.int .i64 rK, .int .i64 rG, .string rB] 78)) := (Below.refl _ _).alloc (Nat.le_refl _) _; have b3 := box3_new w2 (.int .i64 rK) (.int .i64 rG) (.string rB) 78; replace HB := Below.tr (Below.tr HB hb) hA; replace BR := (BR.below hb).below hA; replace BW := (BW.below hb).below hA; clear z1 z2 r0 r1 r2 r3 f0 f1 f2 f3 x0 x1 x2 x3 x4; obtain ⟨⟨r0, r1, r2, r3⟩, f0, f1, f2, f3⟩ := id BR; obtain ⟨x0, x1, x2, x3, x4⟩ := id BW; obtain ⟨⟨g0, g1, g2⟩, -⟩ := id b3; clear hb hA))
     go_region
     have HU : Below (w2.alloc (.cells #[.int .i64 rK, .int .i64 rG, .string rB] 78)).heap.size (w2.alloc (.cells #[.int .i64 rK, .int .i64 rG, .string rB] 78)) (w2.alloc (.cells #[.int .i64 rK, .int .i64 rG, .string rB] 78)).drew := (Below.refl _ _).drew
     generalize (w2.alloc (.cells #[.int .i64 rK, .int .i64 rG, .string rB] 78)).drew = U at HU ⊢
     replace HB := Below.tr HB HU
     replace BR := BR.below HU
     replace b3 := b3.below HU
     clear r0 r1 r2 r3 f0 f1 f2 f3 x0 x1 x2 x3 x4 g0 g1 g2 BW HU
     obtain ⟨⟨r0, r1, r2, r3⟩, f0, f1, f2, f3⟩ := id BR
     obtain ⟨⟨g0, g1, g2⟩, -⟩ := id b3
     go_wp2
     refine bodyPost_ret (v := .tuple #[.agg #[.bool false, .slice none 0 0, .slice none 0 0, .slice none 0 0], .int .i64 81]) (by simp [results, Try.results33, go_sem, r0, r1, r2, r3]) rfl ?_
     rw [hO1]
     exact answers_none (below_put4 HB (Nat.le_refl _) _ _ _ _)
   ·
    have hE' : (rE != 0) = true := by simpa using hE
    replace hO1 : O = none := by rw [hO1, if_neg (fun h => hE h.1)]
    clear cG cR
    go_enter Try.func33, Try.ntmps33
    go_wp2_with (first
     | (go_at_call 24; rw [← hW]; refine (cB _).mono ?_; rintro y w1 ⟨rfl, hb⟩; replace HB := Below.tr HB hb; replace BR := BR.below hb; replace BW := BW.below hb; replace z1 := cell_below hb z1; replace z2 := cell_below hb z2; clear r0 r1 r2 r3 f0 f1 f2 f3 x0 x1 x2 x3 x4; obtain ⟨⟨r0, r1, r2, r3⟩, f0, f1, f2, f3⟩ := id BR; obtain ⟨x0, x1, x2, x3, x4⟩ := id BW; clear hb)
     | (go_at_call 39; refine (cW _).mono ?_; rintro y w2 ⟨rfl, hb⟩; have hA : Below w2.heap.size w2 (w2.alloc (.cells #[.int .i64 rK, .int .i64 rG, .string rB] 78)) := (Below.refl _ _).alloc (Nat.le_refl _) _; have b3 := box3_new w2 (.int .i64 rK) (.int .i64 rG) (.string rB) 78; replace HB := Below.tr (Below.tr HB hb) hA; replace BR := (BR.below hb).below hA; replace BW := (BW.below hb).below hA; clear z1 z2 r0 r1 r2 r3 f0 f1 f2 f3 x0 x1 x2 x3 x4; obtain ⟨⟨r0, r1, r2, r3⟩, f0, f1, f2, f3⟩ := id BR; obtain ⟨x0, x1, x2, x3, x4⟩ := id BW; obtain ⟨⟨g0, g1, g2⟩, -⟩ := id b3; clear hb hA))
    go_region
    have HU : Below (w2.alloc (.cells #[.int .i64 rK, .int .i64 rG, .string rB] 78)).heap.size (w2.alloc (.cells #[.int .i64 rK, .int .i64 rG, .string rB] 78)) (w2.alloc (.cells #[.int .i64 rK, .int .i64 rG, .string rB] 78)).drew := (Below.refl _ _).drew
    generalize (w2.alloc (.cells #[.int .i64 rK, .int .i64 rG, .string rB] 78)).drew = U at HU ⊢
    replace HB := Below.tr HB HU
    replace BR := BR.below HU
    replace b3 := b3.below HU
    clear r0 r1 r2 r3 f0 f1 f2 f3 x0 x1 x2 x3 x4 g0 g1 g2 BW HU
    obtain ⟨⟨r0, r1, r2, r3⟩, f0, f1, f2, f3⟩ := id BR
    obtain ⟨⟨g0, g1, g2⟩, -⟩ := id b3
    go_wp2
    refine bodyPost_ret (v := .tuple #[.agg #[.bool false, .slice none 0 0, .slice none 0 0, .slice none 0 0], .int .i64 81]) (by simp [results, Try.results33, go_sem, r0, r1, r2, r3]) rfl ?_
    rw [hO1]
    exact answers_none (below_put4 HB (Nat.le_refl _) _ _ _ _)
 ·
  have cB : ∀ U, Calls Try.prog 24 #[.agg #[.slice a n c, .slice a' n' c', .slice b p f, .int .i64 root, .int .i64 gen], .int .i64 block] U fun e w' => e = .returned (.bool false) ∧ Below U.heap.size U w' := fun U => by
   have := cB0 U
   have hh : (decide (10 ≤ block) && decide (block < (n' : Int))) = false := by
    rw [Bool.and_eq_false_iff, decide_eq_false_iff_not, decide_eq_false_iff_not]
    by_cases h10 : 10 ≤ block
    ·
     exact .inr fun h => hin ⟨h10, h⟩
    ·
     exact .inl h10
   rw [hh] at this
   exact this
  have hO1 : O = none := by
   rw [hO']
   unfold holdsS
   rw [if_neg (fun h => hin ⟨h.1, by omega⟩)]
  have z1 : True := trivial
  have z2 : True := trivial
  clear hO' hn' hp hpn hB' hP BV cB0 hin
  go_enter Try.func33, Try.ntmps33
  go_wp2_with (go_at_call 24; rw [← hW]; refine (cB _).mono ?_; rintro y w1 ⟨rfl, hb⟩; replace HB := Below.tr HB hb; replace BR := BR.below hb; replace BW := BW.below hb; clear r0 r1 r2 r3 f0 f1 f2 f3 x0 x1 x2 x3 x4; obtain ⟨⟨r0, r1, r2, r3⟩, f0, f1, f2, f3⟩ := id BR; obtain ⟨x0, x1, x2, x3, x4⟩ := id BW; clear hb)
  refine bodyPost_ret (v := .tuple #[.agg #[.bool false, .slice none 0 0, .slice none 0 0, .slice none 0 0], .int .i64 81]) (by simp [results, Try.results33, go_sem, r0, r1, r2, r3]) rfl ?_
  rw [hO1]
  exact answers_none (below_put4 HB (Nat.le_refl _) _ _ _ _)
def nodeO : Option NodeS → NodeS
 | none => (false, [], [], [])
 | some nd => nd
def errO : Option NodeS → Int
 | none => 81
 | some _ => 0
theorem loadC_true (V : World) (x : Ending) (V' : World) (O : Option NodeS) : LoadC V x V' true O ↔ Answers V x V' (nodeO O).1 (nodeO O).2.1 (nodeO O).2.2.1 (nodeO O).2.2.2 (errO O) := by
 unfold LoadC
 rw [if_pos rfl]
 cases O <;> exact Iff.rfl
def WalkBox (V : World) (h : Nat) (v0 v1 v2 v3 v4 : Value) (lv : Int) : Prop := WoodBox V h v0 v1 v2 v3 v4 ∧ V.cell? ⟨h, 5, none⟩ = some (.int .i64 lv) ∧ V.frozen? ⟨h, 5, none⟩ = false
theorem walkBox_new (w : World) (v0 v1 v2 v3 v4 : Value) (lv : Int) (t : TypeId) {h : Nat} (hh : h = w.heap.size) : WalkBox (w.alloc (.cells #[v0, v1, v2, v3, v4, .int .i64 lv] t)) h v0 v1 v2 v3 v4 lv := by
 subst hh
 refine ⟨⟨World.cell?_alloc_at _ _ _ _ rfl, World.cell?_alloc_at _ _ _ _ rfl, World.cell?_alloc_at _ _ _ _ rfl, World.cell?_alloc_at _ _ _ _ rfl, World.cell?_alloc_at _ _ _ _ rfl⟩, World.cell?_alloc_at _ _ _ _ rfl, ?_⟩
 exact (World.frozen?_alloc_mark w _ _ _ _ 5).trans (by simp)
theorem rightW_len {bs ns : List Bool} {ps : List ByteArray} {root gen : Int} (h : rightW bs ns ps root gen = true) : ps.length = ns.length := by
 unfold rightW at h
 simp only [Bool.and_eq_true, decide_eq_true_eq] at h
 exact h.1.1.1.1.2
set_option maxRecDepth 20000 in
set_option maxHeartbeats 4000000 in
theorem lookLoad_any (a a' b : Option Addr) (n c n' c' p f : Nat) (bs ns : List Bool) (ps : List ByteArray) (root gen block : Int) (rt : Bool) (w : World) (hn : n = bs.length) (hn' : n' = ns.length) (hp : p = ps.length) (hB : IsB w a c bs) (hB' : IsB w a' c' ns) (hP : IsS w b f ps) :
  Calls Try.prog 25 #[.agg #[.slice a n c, .slice a' n' c', .slice b p f, .int .i64 root, .int .i64 gen], .int .i64 block, .bool rt] w fun x w' => LoadC w x w' (rightW bs ns ps root gen) (holdsS ns ps gen block rt) := by
 obtain ⟨W, hW⟩ : ∃ W, W = (w.alloc (.cells #[.slice a n c, .slice a' n' c', .slice b p f, .int .i64 root, .int .i64 gen] 27)).alloc (.cells #[.bool false, .slice none 0 0, .slice none 0 0, .slice none 0 0] 62) := ⟨_, rfl⟩
 have BW : WoodBox W w.heap.size (.slice a n c) (.slice a' n' c') (.slice b p f) (.int .i64 root) (.int .i64 gen) := by rw [hW]; exact (woodBox_new _ _ _ _ _ _ _ rfl).below ((Below.refl _ _).alloc (Nat.le_refl _) _)
 have BR : Box4 W (w.heap.size + 1) (.bool false) (.slice none 0 0) (.slice none 0 0) (.slice none 0 0) := by rw [hW]; exact box4_new _ _ _ _ _ _ (by simp)
 have HB : Below w.heap.size w W := by rw [hW]; exact ((Below.refl _ _).alloc (Nat.le_refl _) _).alloc (by simp) _
 have cR := lookRight_any a a' b n c n' c' p f bs ns ps root gen W hn hn' hp (hB.below HB) (hB'.below HB) (hP.below HB)
 obtain ⟨⟨r0, r1, r2, r3⟩, f0, f1, f2, f3⟩ := id (hW ▸ BR)
 obtain ⟨x0, x1, x2, x3, x4⟩ := id (hW ▸ BW)
 have hle : w.heap.size ≤ w.heap.size + 1 := by omega
 cases hR : rightW bs ns ps root gen with
 | false =>
  rw [hR] at cR
  clear hn hn' hp hB hB' hP hR
  go_enter Try.func25, Try.ntmps25
  go_wp2_with (
   (go_at_call 19; rw [← hW]; refine cR.mono ?_; rintro y w1 ⟨rfl, hb⟩; replace HB := Below.tr HB hb; replace BR := BR.below hb; replace BW := BW.below hb; clear r0 r1 r2 r3 f0 f1 f2 f3 x0 x1 x2 x3 x4; obtain ⟨⟨r0, r1, r2, r3⟩, f0, f1, f2, f3⟩ := id BR; obtain ⟨x0, x1, x2, x3, x4⟩ := id BW; clear hb))
  refine bodyPost_ret (v := .tuple #[.agg #[.bool false, .slice none 0 0, .slice none 0 0, .slice none 0 0], .int .i64 1]) (by simp [results, Try.results25, go_sem, r0, r1, r2, r3]) rfl ?_
  exact answers_none (below_put4 HB hle _ _ _ _)
 | true =>
  rw [hR] at cR
  have hpn : p = n' := by rw [hp, hn']; exact rightW_len hR
  obtain ⟨O, hO⟩ : ∃ O, O = holdsS ns ps gen block rt := ⟨_, rfl⟩
  rw [← hO]
  simp only [loadC_true]
  obtain ⟨⟨nl, nk, nv, nc⟩, hN⟩ : ∃ x, x = nodeO O := ⟨_, rfl⟩
  obtain ⟨nE, hE⟩ : ∃ x, x = errO O := ⟨_, rfl⟩
  rw [← hN, ← hE]
  have cL : ∀ (h : Nat) U, Below w.heap.size w U → WoodBox U h (.slice a n c) (.slice a' n' c') (.slice b p f) (.int .i64 root) (.int .i64 gen) → Calls Try.prog 33 #[.pointer (some ⟨h, 0, none⟩), .int .i64 block, .bool rt] U fun x V' => Answers U x V' nl nk nv nc nE := fun h U hU hb => by
   refine (load_any h a a' b n c n' c' p f ns ps root gen block rt U hn' hp hpn hb (hB'.below hU) (hP.below hU)).mono fun x V' hx => ?_
   rw [← hO, loadC_true, ← hN, ← hE] at hx
   exact hx
  clear hn hn' hp hB hB' hP hR hO hpn hN hE
  go_enter Try.func25, Try.ntmps25
  go_wp2_with (first
   | (go_at_call 19; rw [← hW]; refine cR.mono ?_; rintro y w1 ⟨rfl, hb⟩; replace HB := Below.tr HB hb; replace BR := BR.below hb; replace BW := BW.below hb; clear r0 r1 r2 r3 f0 f1 f2 f3 x0 x1 x2 x3 x4; obtain ⟨⟨r0, r1, r2, r3⟩, f0, f1, f2, f3⟩ := id BR; obtain ⟨x0, x1, x2, x3, x4⟩ := id BW; clear hb)
   | (go_at_call 33; have hA : Below w1.heap.size w1 (w1.alloc (.cells #[.slice a n c, .slice a' n' c', .slice b p f, .int .i64 root, .int .i64 gen, .int .i64 0] 75)) := (Below.refl _ _).alloc (Nat.le_refl _) _; have BK := walkBox_new w1 (.slice a n c) (.slice a' n' c') (.slice b p f) (.int .i64 root) (.int .i64 gen) 0 75 rfl; refine (cL _ _ (Below.tr HB hA) BK.1).mono ?_; rintro y w2 ⟨k1, a1, d1, k2, a2, d2, k3, a3, d3, rfl, e1, e2, e3, i1, i2, i3, j1, j2, j3, hb⟩; have hlo : w.heap.size + 2 ≤ (w1.alloc (.cells #[.slice a n c, .slice a' n' c', .slice b p f, .int .i64 root, .int .i64 gen, .int .i64 0] 75)).heap.size := (by have := BR.lt; simp; omega); replace HB := Below.tr (Below.tr HB hA) hb; replace BR := (BR.below hA).below hb; clear r0 r1 r2 r3 f0 f1 f2 f3 x0 x1 x2 x3 x4 BW BK; obtain ⟨⟨r0, r1, r2, r3⟩, f0, f1, f2, f3⟩ := id BR; have E : Hid (k1 = nk.length ∧ k2 = nv.length ∧ k3 = nc.length) := ⟨e1, e2, e3⟩; have I : Hid (IsS w2 a1 d1 nk ∧ IsS w2 a2 d2 nv ∧ IsI w2 a3 d3 nc) := ⟨i1, i2, i3⟩; have J : Hid (From (w.heap.size + 2) a1 ∧ From (w.heap.size + 2) a2 ∧ From (w.heap.size + 2) a3) := ⟨j1.mono hlo, j2.mono hlo, j3.mono hlo⟩; clear hb hA hlo e1 e2 e3 i1 i2 i3 j1 j2 j3))
  have T4 := turns_put4 w2 (w.heap.size + 1) (.bool nl) (.slice a1 k1 d1) (.slice a2 k2 d2) (.slice a3 k3 d3)
  obtain ⟨j1, j2, j3⟩ := J.out
  refine bodyPost_ret (v := .tuple #[.agg #[.bool nl, .slice a1 k1 d1, .slice a2 k2 d2, .slice a3 k3 d3], .int .i64 nE]) (by simp [results, Try.results25, go_sem, r0, r1, r2, r3]) rfl ?_
  exact ⟨k1, a1, d1, k2, a2, d2, k3, a3, d3, rfl, E.out.1, E.out.2.1, E.out.2.2, I.out.1.turns T4 (fun x hx e => by have := j1 x hx; omega), I.out.2.1.turns T4 (fun x hx e => by have := j2 x hx; omega), I.out.2.2.turns T4 (fun x hx e => by have := j3 x hx; omega), j1.mono (by omega), j2.mono (by omega), j3.mono (by omega), below_put4 HB hle _ _ _ _⟩
theorem str_empty {s : ByteArray} (h : s.size = 0) : s = ⟨#[]⟩ := by
 have h3 : s.data.size = 0 := h
 cases s with
 | mk d => simp at h3; subst h3; rfl
theorem str_full {s : ByteArray} (h : ¬ s.size = 0) : s.toList.isEmpty = false := by
 have h3 : ¬ s.toList = [] := fun e => h (by rw [ByteArray.toList_eq] at e; exact (size_list s).symm.trans (by rw [e]; rfl))
 cases hh : s.toList with
 | nil => exact absurd hh h3
 | cons _ _ => rfl
theorem getD_some {α : Type} {xs : List α} {i : Nat} {x d : α} (h : xs[i]? = some x) : xs.getD i d = x := by rw [List.getD_eq_getElem?_getD, h]; rfl
set_option maxRecDepth 20000 in
set_option maxHeartbeats 1000000 in
theorem placeWithin_any (block depth : Int) (low high : ByteArray) (a : Option Addr) (n c : Nat) (ks : List ByteArray) (w : World) (hn : n = ks.length) (hK : IsS w a c ks) :
  Calls Try.prog 26 #[.agg #[.int .i64 block, .int .i64 depth, .string low, .string high], .slice a n c] w fun e w' => e = .returned (.bool (withinK ks low high)) ∧ Below w.heap.size w w' := by
 have HB : Below w.heap.size w (w.alloc (.cells #[.int .i64 block, .int .i64 depth, .string low, .string high] 58)) := (Below.refl _ _).alloc (Nat.le_refl _) _
 obtain ⟨⟨x0, x1, x2, x3⟩, -⟩ := box4_new w (.int .i64 block) (.int .i64 depth) (.string low) (.string high) 58 rfl
 have mn : n ≤ 9223372036854775807 := by rw [hn]; exact Nat.le_trans hK.1 hK.2.1
 obtain ⟨r, hr⟩ : ∃ r, r = withinK ks low high := ⟨_, rfl⟩
 rw [← hr]
 cases ks with
 | nil =>
  have hrf : Hid (r = false) := by show _ = _; rw [hr]; rfl
  simp at hn
  subst hn
  clear hr hK
  go_enter Try.func26, Try.ntmps26
  go_wp2
  go_ret
  exact ⟨by rw [hrf.out]; rfl, HB⟩
 | cons k ks =>
  have hl : (k :: ks).length - 1 < (k :: ks).length := by simp
  obtain ⟨z, hz⟩ : ∃ z, (k :: ks)[(k :: ks).length - 1]? = some z := ⟨_, List.getElem?_eq_getElem hl⟩
  obtain ⟨b, o, rfl, -, hc0, -⟩ := hK.2.2 0 k rfl
  obtain ⟨b', o', heq, -, hc1, -⟩ := hK.2.2 _ z hz
  cases heq
  have hr1 : r = (!ltB k low && (decide (high.size = 0) || ltB z high)) := by rw [hr]; unfold withinK; rw [getD_some hz]; rfl
  rw [← hn] at hc1
  have z0 := cell_alloc hc0 (.cells #[.int .i64 block, .int .i64 depth, .string low, .string high] 58)
  have z1 := cell_alloc hc1 (.cells #[.int .i64 block, .int .i64 depth, .string low, .string high] 58)
  rw [Nat.add_zero] at z0
  obtain ⟨m, hm⟩ : ∃ m, n = m + 1 := ⟨n - 1, by rw [hn]; simp⟩
  subst hm
  rw [Nat.add_sub_cancel] at z1
  have k0 : (0 : Int) < ((m + 1 : Nat) : Int) := by omega
  have k1 : ¬ ((m + 1 : Nat) : Int) = 0 := by omega
  have k2 : ((m : Nat) : Int) < ((m + 1 : Nat) : Int) := by omega
  have k3 : ((m + 1 : Nat) : Int) - 1 = m := by omega
  clear hr hn hK hz hl hc0 hc1
  cases h1 : ltB k low with
  | true =>
   have h1' : Op.bytesLess k.toList low.toList = true := h1
   have hrf : Hid (r = false) := by show _ = _; rw [hr1, h1]; rfl
   clear hr1 h1
   go_enter Try.func26, Try.ntmps26
   go_wp2
   go_region
   go_wp2
   go_ret
   exact ⟨by rw [hrf.out]; rfl, HB.drew⟩
  | false =>
   have h1' : Op.bytesLess k.toList low.toList = false := h1
   by_cases h2 : high.size = 0
   ·
    obtain rfl := str_empty h2
    have hrf : Hid (r = true) := by show _ = _; rw [hr1, h1]; rfl
    clear hr1 h1
    go_enter Try.func26, Try.ntmps26
    go_wp2
    go_region
    go_wp2
    go_ret
    exact ⟨by rw [hrf.out]; rfl, HB.drew⟩
   ·
    have h5 := str_full h2
    cases h4 : ltB z high with
    | true =>
     have h4' : Op.bytesLess z.toList high.toList = true := h4
     have hrf : Hid (r = true) := by show _ = _; rw [hr1, h1, h4]; simp
     clear hr1 h1 h2 h4
     go_enter Try.func26, Try.ntmps26
     go_wp2
     go_region
     go_wp2
     go_ret
     exact ⟨by rw [hrf.out]; rfl, HB.drew⟩
    | false =>
     have h4' : Op.bytesLess z.toList high.toList = false := h4
     have hrf : Hid (r = false) := by show _ = _; rw [hr1, h1, h4]; simp [h2]
     clear hr1 h1 h2 h4
     go_enter Try.func26, Try.ntmps26
     go_wp2
     go_region
     go_wp2
     go_ret
     exact ⟨by rw [hrf.out]; rfl, HB.drew⟩
set_option maxRecDepth 20000 in
set_option maxHeartbeats 2000000 in
theorem placeBelow_any (block depth : Int) (low high : ByteArray) (l : Bool) (a a' a'' : Option Addr) (n c n' c' n'' c'' : Nat) (ks vs : List ByteArray) (cs : List Int) (i : Nat) (kb : Int) (w : World) (e1 : n = ks.length) (e3 : n'' = cs.length) (i1 : IsS w a c ks) (i3 : IsI w a'' c'' cs) (hi : cs[i]? = some kb) (hc : cs.length = ks.length + 1) (hd : 0 ≤ depth ∧ depth ≤ 100) :
  Calls Try.prog 28 #[.agg #[.int .i64 block, .int .i64 depth, .string low, .string high], .agg #[.bool l, .slice a n c, .slice a' n' c', .slice a'' n'' c''], .int .i64 i] w fun e w' => e = .returned (.agg #[.int .i64 kb, .int .i64 (depth + 1), .string (kidFrom low ks i), .string (kidTo high ks i)]) ∧ Below w.heap.size w w' := by
 obtain ⟨W, hW⟩ : ∃ W, W = ((w.alloc (.cells #[.int .i64 block, .int .i64 depth, .string low, .string high] 58)).alloc (.cells #[.bool l, .slice a n c, .slice a' n' c', .slice a'' n'' c''] 62)).alloc (.cells #[.int .i64 0, .int .i64 0, .string ⟨#[]⟩, .string ⟨#[]⟩] 58) := ⟨_, rfl⟩
 have HB : Below w.heap.size w W := by rw [hW]; exact (((Below.refl _ _).alloc (Nat.le_refl _) _).alloc (by simp) _).alloc (by simp only [World.size_alloc]; omega) _
 have BP : Box4 W w.heap.size (.int .i64 block) (.int .i64 depth) (.string low) (.string high) := by rw [hW]; exact ((box4_new _ _ _ _ _ _ rfl).alloc _).alloc _
 have BN : Box4 W (w.heap.size + 1) (.bool l) (.slice a n c) (.slice a' n' c') (.slice a'' n'' c'') := by rw [hW]; exact (box4_new _ _ _ _ _ _ (by simp)).alloc _
 have BR : Box4 W (w.heap.size + 1 + 1) (.int .i64 0) (.int .i64 0) (.string ⟨#[]⟩) (.string ⟨#[]⟩) := by rw [hW]; exact box4_new _ _ _ _ _ _ (by simp)
 have mn : n ≤ 9223372036854775807 := by rw [e1]; exact Nat.le_trans i1.1 i1.2.1
 have mn'' : n'' ≤ 9223372036854775807 := by rw [e3]; exact Nat.le_trans i3.1 i3.2.1
 have hil := (List.getElem?_eq_some_iff.1 hi).1
 have hi' : (i : Int) < n'' := by omega
 obtain ⟨b, o, rfl, -, hc0⟩ := i3.2.2 i kb hi
 have z := cell_below HB hc0
 have hdw : IntKind.i64.wrap (depth + 1) = depth + 1 := by rw [IntKind.wrap_i64]; omega
 obtain ⟨x, hx⟩ : ∃ x, x = kidFrom low ks i := ⟨_, rfl⟩
 obtain ⟨y, hy⟩ : ∃ y, y = kidTo high ks i := ⟨_, rfl⟩
 rw [← hx, ← hy]
 obtain ⟨⟨p0, p1, p2, p3⟩, -⟩ := id (hW ▸ BP)
 obtain ⟨⟨q0, q1, q2, q3⟩, -⟩ := id (hW ▸ BN)
 obtain ⟨⟨r0, r1, r2, r3⟩, f0, f1, f2, f3⟩ := id (hW ▸ BR)
 rw [hW] at z
 have z' := cell_alloc z (.cells #[.int .i64 0, .int .i64 0, .string ⟨#[]⟩, .string ⟨#[]⟩] 58)
 have E1 : Hid (n = ks.length ∧ n'' = cs.length ∧ cs.length = ks.length + 1) := ⟨e1, e3, hc⟩
 have I1 : Hid (IsS w a c ks) := i1
 have X : Hid (x = kidFrom low ks i ∧ y = kidTo high ks i) := ⟨hx, hy⟩
 clear e1 e3 hc hi hil i1 i3 hc0 hx hy
 go_enter Try.func28, Try.ntmps28
 go_wp2
 go_region
 rw [← hW]
 have HU : Below W.heap.size W (W.alloc (.cells #[.int .i64 kb, .int .i64 (depth + 1), .string low, .string high] 58)).drew := ((Below.refl _ _).alloc (Nat.le_refl _) _).drew
 have hWs : W.heap.size = w.heap.size + 1 + 1 + 1 := by rw [hW]; simp
 have BK : Box4 (W.alloc (.cells #[.int .i64 kb, .int .i64 (depth + 1), .string low, .string high] 58)).drew (w.heap.size + 1 + 1 + 1) (.int .i64 kb) (.int .i64 (depth + 1)) (.string low) (.string high) := (box4_new _ _ _ _ _ _ hWs.symm).drew
 generalize (W.alloc (.cells #[.int .i64 kb, .int .i64 (depth + 1), .string low, .string high] 58)).drew = U at HU BK ⊢
 replace HB := Below.tr HB HU
 replace BN := BN.below HU
 replace BR := BR.below HU
 clear p0 p1 p2 p3 q0 q1 q2 q3 r0 r1 r2 r3 f0 f1 f2 f3 z z' hW BP HU hWs
 have hil : i ≤ ks.length := by have := E1.out; omega
 by_cases h0 : i = 0
 ·
  by_cases h1 : i < ks.length
  ·
   obtain ⟨⟨q0, q1, q2, q3⟩, -⟩ := id BN
   obtain ⟨⟨k0, k1, k2, k3⟩, kf0, kf1, kf2, kf3⟩ := id BK
   obtain rfl : x = low := by rw [X.out.1]; unfold kidFrom; rw [if_pos h0]
   have hm0 : ¬ (0 : Int) < i := by omega
   obtain ⟨ky, hky⟩ : ∃ k, Hid (ks[i]? = some k) := get_some h1
   obtain ⟨b1, o1, rfl, hlt1, hc2, -⟩ := I1.out.2.2 i ky hky.out
   have zk := cell_below HB hc2
   obtain rfl : y = ky := by rw [X.out.2]; unfold kidTo; rw [if_pos h1]; exact getD_some hky.out
   have hn1 : (i : Int) < n := by have := E1.out; omega
   replace BK := BK.set3 (.string y)
   replace BR := BR.other (p := ⟨w.heap.size + 1 + 1 + 1, 3, none⟩) (by simp) (.string y)
   replace HB : Below w.heap.size w (U.setCell ⟨w.heap.size + 1 + 1 + 1, 3, none⟩ (.string y)) := HB.setCell (by simp; omega) _
   obtain ⟨⟨u0, u1, u2, u3⟩, -⟩ := id BK
   obtain ⟨⟨r0, r1, r2, r3⟩, rf0, rf1, rf2, rf3⟩ := id BR
   clear hil h0 h1 X E1 I1 BN BK BR hd mn'' hi' hky hc2 hlt1
   go_wp2
   refine bodyPost_ret (v := .agg #[.int .i64 kb, .int .i64 (depth + 1), .string x, .string y]) (by simp [results, Try.results28, go_sem, r0, r1, r2, r3]) rfl ?_
   exact ⟨rfl, below_put4 HB (by omega) _ _ _ _⟩
  ·
   obtain ⟨⟨q0, q1, q2, q3⟩, -⟩ := id BN
   obtain ⟨⟨k0, k1, k2, k3⟩, kf0, kf1, kf2, kf3⟩ := id BK
   obtain rfl : x = low := by rw [X.out.1]; unfold kidFrom; rw [if_pos h0]
   have hm0 : ¬ (0 : Int) < i := by omega
   obtain rfl : y = high := by rw [X.out.2]; unfold kidTo; rw [if_neg h1]
   have hn1 : ¬ (i : Int) < n := by have := E1.out; omega
   obtain ⟨⟨r0, r1, r2, r3⟩, rf0, rf1, rf2, rf3⟩ := id BR
   clear hil h0 h1 X E1 I1 BN BK BR hd mn'' hi'
   go_wp2
   refine bodyPost_ret (v := .agg #[.int .i64 kb, .int .i64 (depth + 1), .string x, .string y]) (by simp [results, Try.results28, go_sem, r0, r1, r2, r3]) rfl ?_
   exact ⟨rfl, below_put4 HB (by omega) _ _ _ _⟩
 ·
  by_cases h1 : i < ks.length
  ·
   obtain ⟨⟨q0, q1, q2, q3⟩, -⟩ := id BN
   obtain ⟨⟨k0, k1, k2, k3⟩, kf0, kf1, kf2, kf3⟩ := id BK
   obtain ⟨m, hm⟩ : ∃ m : Nat, (i : Int) - 1 = m := ⟨i - 1, by omega⟩
   obtain ⟨kx, hkx⟩ : ∃ k, Hid (ks[m]? = some k) := get_some (by omega)
   obtain ⟨b1, o1, rfl, hlt1, hc1, -⟩ := I1.out.2.2 m kx hkx.out
   have zm := cell_below HB hc1
   have hm1 : (m : Int) < n := by have := E1.out; omega
   obtain rfl : x = kx := by rw [X.out.1]; unfold kidFrom; rw [if_neg h0, show i - 1 = m by omega]; exact getD_some hkx.out
   replace BK := BK.set2 (.string x)
   replace BN := BN.other (p := ⟨w.heap.size + 1 + 1 + 1, 2, none⟩) (fun e => by have e' : w.heap.size + 1 + 1 + 1 = w.heap.size + 1 := e; omega) (.string x)
   replace BR := BR.other (p := ⟨w.heap.size + 1 + 1 + 1, 2, none⟩) (by simp) (.string x)
   replace HB : Below w.heap.size w (U.setCell ⟨w.heap.size + 1 + 1 + 1, 2, none⟩ (.string x)) := HB.setCell (by simp; omega) _
   obtain ⟨⟨s0, s1, s2, s3⟩, -⟩ := id BN
   obtain ⟨⟨t0, t1, t2, t3⟩, tf0, tf1, tf2, tf3⟩ := id BK
   have hm0 : (0 : Int) < i := by omega
   obtain ⟨ky, hky⟩ : ∃ k, Hid (ks[i]? = some k) := get_some h1
   obtain ⟨b2, o2, heq, -, hc2, -⟩ := I1.out.2.2 i ky hky.out
   cases heq
   have zk := cell_below HB hc2
   obtain rfl : y = ky := by rw [X.out.2]; unfold kidTo; rw [if_pos h1]; exact getD_some hky.out
   have hn1 : (i : Int) < n := by have := E1.out; omega
   replace BK := BK.set3 (.string y)
   replace BR := BR.other (p := ⟨w.heap.size + 1 + 1 + 1, 3, none⟩) (by simp) (.string y)
   replace HB : Below w.heap.size w ((U.setCell ⟨w.heap.size + 1 + 1 + 1, 2, none⟩ (.string x)).setCell ⟨w.heap.size + 1 + 1 + 1, 3, none⟩ (.string y)) := HB.setCell (by simp; omega) _
   obtain ⟨⟨u0, u1, u2, u3⟩, -⟩ := id BK
   obtain ⟨⟨r0, r1, r2, r3⟩, rf0, rf1, rf2, rf3⟩ := id BR
   clear hil h0 h1 X E1 I1 BN BK BR hd mn'' hi' hkx hlt1 hc1 hky hc2
   go_wp2
   refine bodyPost_ret (v := .agg #[.int .i64 kb, .int .i64 (depth + 1), .string x, .string y]) (by simp [results, Try.results28, go_sem, r0, r1, r2, r3]) rfl ?_
   exact ⟨rfl, below_put4 HB (by omega) _ _ _ _⟩
  ·
   obtain ⟨⟨q0, q1, q2, q3⟩, -⟩ := id BN
   obtain ⟨⟨k0, k1, k2, k3⟩, kf0, kf1, kf2, kf3⟩ := id BK
   obtain ⟨m, hm⟩ : ∃ m : Nat, (i : Int) - 1 = m := ⟨i - 1, by omega⟩
   obtain ⟨kx, hkx⟩ : ∃ k, Hid (ks[m]? = some k) := get_some (by omega)
   obtain ⟨b1, o1, rfl, hlt1, hc1, -⟩ := I1.out.2.2 m kx hkx.out
   have zm := cell_below HB hc1
   have hm1 : (m : Int) < n := by have := E1.out; omega
   obtain rfl : x = kx := by rw [X.out.1]; unfold kidFrom; rw [if_neg h0, show i - 1 = m by omega]; exact getD_some hkx.out
   replace BK := BK.set2 (.string x)
   replace BN := BN.other (p := ⟨w.heap.size + 1 + 1 + 1, 2, none⟩) (fun e => by have e' : w.heap.size + 1 + 1 + 1 = w.heap.size + 1 := e; omega) (.string x)
   replace BR := BR.other (p := ⟨w.heap.size + 1 + 1 + 1, 2, none⟩) (by simp) (.string x)
   replace HB : Below w.heap.size w (U.setCell ⟨w.heap.size + 1 + 1 + 1, 2, none⟩ (.string x)) := HB.setCell (by simp; omega) _
   obtain ⟨⟨s0, s1, s2, s3⟩, -⟩ := id BN
   obtain ⟨⟨t0, t1, t2, t3⟩, tf0, tf1, tf2, tf3⟩ := id BK
   have hm0 : (0 : Int) < i := by omega
   obtain rfl : y = high := by rw [X.out.2]; unfold kidTo; rw [if_neg h1]
   have hn1 : ¬ (i : Int) < n := by have := E1.out; omega
   obtain ⟨⟨r0, r1, r2, r3⟩, rf0, rf1, rf2, rf3⟩ := id BR
   clear hil h0 h1 X E1 I1 BN BK BR hd mn'' hi' hkx hlt1 hc1
   go_wp2
   refine bodyPost_ret (v := .agg #[.int .i64 kb, .int .i64 (depth + 1), .string x, .string y]) (by simp [results, Try.results28, go_sem, r0, r1, r2, r3]) rfl ?_
   exact ⟨rfl, below_put4 HB (by omega) _ _ _ _⟩
end Go.Proofs.Ytpepgpjiddophaa
namespace Go.Proofs.Ytpepgpjiddophaa
namespace Plain
def Room (c : ClimbS) : Prop := c.blocks + howN (freeB [] c.held) c.held.length ≤ 10000 ∧ c.pairs ≤ 9 * c.blocks
theorem room_take {c : ClimbS} (h : Room c) {b : Int} (h1 : 0 ≤ b) (h2 : b < c.held.length) (h3 : atB c.held b.toNat = false) : Room (c.take b) ∧ c.pairs + 9 ≤ 9 * (c.take b).blocks := by
 have hf : freeB [] c.held b.toNat = true := (freeB_iff _ _ _).2 ⟨by omega, h3, rfl⟩
 have := (free_taken hf).2.2
 unfold Room at h ⊢
 have e1 : (c.take b).held.length = c.held.length := by show (c.held.set _ _).length = _; rw [List.length_set]
 have e2 : (c.take b).blocks = c.blocks + 1 := rfl
 have e3 : (c.take b).pairs = c.pairs := rfl
 have e4 : (c.take b).held = c.held.set b.toNat true := rfl
 rw [e1, e2, e3, e4]
 omega
theorem room_leaf {c : ClimbS} (h : Room c) {m : Nat} {d : Int} (hm : c.pairs + m ≤ 9 * c.blocks) : Room (leafC m d c).2 := by
 unfold leafC
 split
 ·
  exact ⟨h.1, hm⟩
 ·
  exact h
theorem room_climb {H : Int → Bool → Option NodeS} (hH : ∀ b r (n : NodeS), H b r = some n → n.2.1.length ≤ 9) : ∀ (k : Nat) (c : ClimbS) (block : Int) (low high : ByteArray), Room c → Room (climbS H k c block low high).2
 | 0, c, block, low, high, h => h
 | k + 1, c, block, low, high, h => by
  have fold : ∀ (l : List (Int × ByteArray × ByteArray)) (r : Int × ClimbS), Room r.2 → Room (l.foldl (fun (r : Int × ClimbS) (x : Int × ByteArray × ByteArray) => if r.1 = 0 then climbS H k r.2 x.1 x.2.1 x.2.2 else r) r).2 := by
   intro l
   induction l with
   | nil => exact fun r hr => hr
   | cons x l ih =>
    intro r hr
    rw [List.foldl_cons]
    refine ih _ ?_
    split
    ·
     exact room_climb hH k r.2 _ _ _ hr
    ·
     exact hr
  rw [climbS]
  split
  ·
   exact h
  ·
   rename_i n hn
   split
   ·
    rename_i hc
    obtain ⟨h1, h2⟩ := room_take h hc.2.1 hc.2.2.1 hc.2.2.2
    split
    ·
     have := hH _ _ _ hn
     exact room_leaf h1 (by show c.pairs + _ ≤ _; omega)
    ·
     exact fold _ _ h1
   ·
    exact h
end Plain
open Go.RowKit Plain
set_option linter.unusedVariables false
theorem RowT.turns {P : Nat → Prop} {w w' : World} {g cap : Nat} {l : List Bool} (h : RowT w g cap l) (t : Turns P w w') (hp : ¬ P g) : RowT w' g cap l := by
 have hl := h.lt
 obtain ⟨cur, hg, hr⟩ := h
 exact ⟨cur, by rw [t.block g hl hp]; exact hg, hr⟩
structure ClimbAt (V : World) (h g N : Nat) (v0 v1 v2 v3 v4 : Value) (c : ClimbS) : Prop where
 wb : WoodBox V h v0 v1 v2 v3 v4
 c5 : V.cell? ⟨h, 5, none⟩ = some (.int .i64 c.pairs)
 c6 : V.cell? ⟨h, 6, none⟩ = some (.int .i64 c.height)
 c7 : V.cell? ⟨h, 7, none⟩ = some (.int .i64 c.blocks)
 c8 : V.cell? ⟨h, 8, none⟩ = some (.slice (some ⟨g, 0, none⟩) N N)
 f5 : V.frozen? ⟨h, 5, none⟩ = false
 f6 : V.frozen? ⟨h, 6, none⟩ = false
 f7 : V.frozen? ⟨h, 7, none⟩ = false
 row : RowT V g N c.held
 len : c.held.length = N
 ne : h ≠ g
section
variable {V V' : World} {h g N : Nat} {v0 v1 v2 v3 v4 : Value} {c : ClimbS}
theorem ClimbAt.lt (n : ClimbAt V h g N v0 v1 v2 v3 v4 c) : h < V.heap.size := cell_lt n.c5
theorem ClimbAt.turns {P : Nat → Prop} (n : ClimbAt V h g N v0 v1 v2 v3 v4 c) (t : Turns P V V') (h1 : ¬ P h) (h2 : ¬ P g) : ClimbAt V' h g N v0 v1 v2 v3 v4 c :=
 ⟨n.wb.turns t h1, t.cell (p := ⟨h, 5, none⟩) h1 n.c5, t.cell (p := ⟨h, 6, none⟩) h1 n.c6, t.cell (p := ⟨h, 7, none⟩) h1 n.c7, t.cell (p := ⟨h, 8, none⟩) h1 n.c8, t.frozen (p := ⟨h, 5, none⟩) n.lt h1 n.f5, t.frozen (p := ⟨h, 6, none⟩) n.lt h1 n.f6, t.frozen (p := ⟨h, 7, none⟩) n.lt h1 n.f7, n.row.turns t h2, n.len, n.ne⟩
theorem ClimbAt.below (n : ClimbAt V h g N v0 v1 v2 v3 v4 c) (hb : Below V.heap.size V V') : ClimbAt V' h g N v0 v1 v2 v3 v4 c := n.turns (P := fun _ => False) (Turns.of_below hb) id id
theorem ClimbAt.box (n : ClimbAt V h g N v0 v1 v2 v3 v4 c) (j : Nat) (u : Value) (hj : 5 ≤ j) : WoodBox (V.setCell ⟨h, j, none⟩ u) h v0 v1 v2 v3 v4 ∧ RowT (V.setCell ⟨h, j, none⟩ u) g N c.held ∧ (∀ i x, i ≠ j → V.cell? ⟨h, i, none⟩ = some x → (V.setCell ⟨h, j, none⟩ u).cell? ⟨h, i, none⟩ = some x) ∧ ∀ i, V.frozen? ⟨h, i, none⟩ = false → (V.setCell ⟨h, j, none⟩ u).frozen? ⟨h, i, none⟩ = false := by
 have o : ∀ i x, i ≠ j → V.cell? ⟨h, i, none⟩ = some x → (V.setCell ⟨h, j, none⟩ u).cell? ⟨h, i, none⟩ = some x := fun i x hi hx => by rw [World.cell?_setCell_other _ _ _ _ (fun hh => hi (by cases hh; rfl))]; exact hx
 obtain ⟨b0, b1, b2, b3, b4⟩ := n.wb
 exact ⟨⟨o 0 _ (by omega) b0, o 1 _ (by omega) b1, o 2 _ (by omega) b2, o 3 _ (by omega) b3, o 4 _ (by omega) b4⟩, n.row.turns (Turns.setCell (P := fun k => k = h) (Turns.refl _ _) (p := ⟨h, j, none⟩) rfl u) (fun e => n.ne e.symm), o, fun i hi => by rw [World.frozen?_setCell]; exact hi⟩
theorem ClimbAt.set5 (n : ClimbAt V h g N v0 v1 v2 v3 v4 c) (m : Nat) : ClimbAt (V.setCell ⟨h, 5, none⟩ (.int .i64 m)) h g N v0 v1 v2 v3 v4 ⟨c.held, m, c.height, c.blocks⟩ := by
 obtain ⟨hw, hr, o, f⟩ := n.box 5 (.int .i64 m) (by decide)
 exact ⟨hw, World.cell?_setCell_same _ _ _ n.c5, o 6 _ (by decide) n.c6, o 7 _ (by decide) n.c7, o 8 _ (by decide) n.c8, f 5 n.f5, f 6 n.f6, f 7 n.f7, hr, n.len, n.ne⟩
theorem ClimbAt.set6 (n : ClimbAt V h g N v0 v1 v2 v3 v4 c) (m : Int) : ClimbAt (V.setCell ⟨h, 6, none⟩ (.int .i64 m)) h g N v0 v1 v2 v3 v4 ⟨c.held, c.pairs, m, c.blocks⟩ := by
 obtain ⟨hw, hr, o, f⟩ := n.box 6 (.int .i64 m) (by decide)
 exact ⟨hw, o 5 _ (by decide) n.c5, World.cell?_setCell_same _ _ _ n.c6, o 7 _ (by decide) n.c7, o 8 _ (by decide) n.c8, f 5 n.f5, f 6 n.f6, f 7 n.f7, hr, n.len, n.ne⟩
theorem ClimbAt.set7 (n : ClimbAt V h g N v0 v1 v2 v3 v4 c) (m : Nat) : ClimbAt (V.setCell ⟨h, 7, none⟩ (.int .i64 m)) h g N v0 v1 v2 v3 v4 ⟨c.held, c.pairs, c.height, m⟩ := by
 obtain ⟨hw, hr, o, f⟩ := n.box 7 (.int .i64 m) (by decide)
 exact ⟨hw, o 5 _ (by decide) n.c5, o 6 _ (by decide) n.c6, World.cell?_setCell_same _ _ _ n.c7, o 8 _ (by decide) n.c8, f 5 n.f5, f 6 n.f6, f 7 n.f7, hr, n.len, n.ne⟩
theorem ClimbAt.hold (n : ClimbAt V h g N v0 v1 v2 v3 v4 c) (j : Nat) (x : Bool) : ClimbAt (V.setCell ⟨g, j, none⟩ (.bool x)) h g N v0 v1 v2 v3 v4 ⟨c.held.set j x, c.pairs, c.height, c.blocks⟩ := by
 have t : Turns (fun k => k = g) V (V.setCell ⟨g, j, none⟩ (.bool x)) := Turns.setCell (P := fun k => k = g) (Turns.refl _ _) (p := ⟨g, j, none⟩) rfl _
 exact ⟨n.wb.turns t n.ne, t.cell (p := ⟨h, 5, none⟩) n.ne n.c5, t.cell (p := ⟨h, 6, none⟩) n.ne n.c6, t.cell (p := ⟨h, 7, none⟩) n.ne n.c7, t.cell (p := ⟨h, 8, none⟩) n.ne n.c8, t.frozen (p := ⟨h, 5, none⟩) n.lt n.ne n.f5, t.frozen (p := ⟨h, 6, none⟩) n.lt n.ne n.f6, t.frozen (p := ⟨h, 7, none⟩) n.lt n.ne n.f7, n.row.set j x, by rw [List.length_set]; exact n.len, n.ne⟩
end
set_option maxRecDepth 20000 in
set_option maxHeartbeats 2000000 in
theorem hold_any (V : World) (h g N : Nat) (v0 v1 v2 v3 v4 : Value) (c : ClimbS) (a : Option Addr) (cap n : Nat) (bs : List Int) (hn : n = bs.length) (hI : IsI V a cap bs) (ha : bs ≠ [] → ∀ x, a = some x → x.block ≠ g) (D : ClimbAt V h g N v0 v1 v2 v3 v4 c) (hN : N ≤ 9223372036854775807) :
  Calls Try.prog 16 #[.pointer (some ⟨h, 0, none⟩), .slice a n cap] V fun e V' => e = .returned (.bool (holdL c.held bs).1) ∧ ClimbAt V' h g N v0 v1 v2 v3 v4 ⟨(holdL c.held bs).2, c.pairs, c.height, c.blocks⟩ ∧ Turns (fun k => k = g) V V' := by
 obtain ⟨R, hR⟩ : ∃ R, R = holdL c.held bs := ⟨_, rfl⟩
 rw [← hR]
 have HR : Hid (R = holdL c.held (bs.drop 0)) := hR
 have mn : n ≤ 9223372036854775807 := by rw [hn]; exact Nat.le_trans hI.1 hI.2.1
 have EN : Hid (n = bs.length) := hn
 have RI : Hid (IsI V a cap bs) := hI
 clear hR hn hI
 go_enter Try.func16, Try.ntmps16
 go_wp2
 go_loopw [9] (fun v wr => ∃ (j : Nat) (l : List Bool), j ≤ n ∧ v = .int .i64 j ∧ R = holdL l (bs.drop j) ∧ ClimbAt wr h g N v0 v1 v2 v3 v4 ⟨l, c.pairs, c.height, c.blocks⟩ ∧ Turns (fun k => k = g) V wr) (fun v _ => n - (intOf v).toNat)
 case atStart => exact ⟨0, c.held, by omega, rfl, HR.out, D, Turns.refl _ _⟩
 case round =>
  clear D HR
  obtain ⟨j, l, hj, rfl, hA, D, T⟩ := hrel
  have HA : Hid (R = holdL l (bs.drop j)) := hA
  clear hA
  have x8 := D.c8
  by_cases hlt : j < n
  ·
   have hlt' : (j : Int) < n := by omega
   obtain ⟨b, hb⟩ : ∃ x, Hid (bs[j]? = some x) := get_some (by rw [← EN.out]; exact hlt)
   obtain ⟨b1, o1, rfl, -, hc⟩ := RI.out.2.2 j b hb.out
   have hne := ha (fun e => by have := hb.out; rw [e] at this; simp at this) _ rfl
   have z := T.cell (p := ⟨b1, o1 + j, none⟩) hne hc
   have hd : Hid (bs.drop j = b :: bs.drop (j + 1)) := by
    obtain ⟨hl, hv⟩ := List.getElem?_eq_some_iff.1 hb.out
    show _ = _
    rw [List.drop_eq_getElem_cons hl, hv]
   have hlen : Hid (l.length = N) := D.len
   clear hc hb
   by_cases h0 : b < 0
   ·
    have HF : Hid (R = (false, l)) := by show _ = _; rw [HA.out, hd.out, holdL, if_neg (fun hh => by omega)]
    go_wp2
    go_ret
    rw [HF.out]
    exact ⟨rfl, D, T⟩
   ·
    by_cases h1 : b < N
    ·
     have h1' : ¬ (N : Int) ≤ b := by omega
     obtain ⟨i, rfl⟩ : ∃ i : Nat, b = i := ⟨b.toNat, by omega⟩
     have hil : i < l.length := by have := hlen.out; omega
     obtain ⟨x, hx⟩ : ∃ x, Hid (l[i]? = some x) := get_some hil
     obtain ⟨q, qf⟩ := D.row.cell hx.out
     cases x with
     | true =>
      have HF : Hid (R = (false, l)) := by show _ = _; rw [HA.out, hd.out, holdL, if_neg (fun hh => by have := hh.2.2; rw [Int.toNat_natCast, atB_some hx.out] at this; cases this)]
      clear hil
      go_wp2
      go_ret
      rw [HF.out]
      exact ⟨rfl, D, T⟩
     | false =>
      have HF : Hid (R = holdL (l.set i true) (bs.drop (j + 1))) := by show _ = _; rw [HA.out, hd.out, holdL, if_pos ⟨by omega, by omega, by rw [Int.toNat_natCast, atB_some hx.out]⟩, Int.toNat_natCast]
      have D' := D.hold i true
      have T' : Turns (fun k => k = g) V (wr.setCell ⟨g, i, none⟩ (.bool true)) := T.setCell (p := ⟨g, i, none⟩) rfl _
      clear hil HA hd hx
      go_wp2
      go_roundw
      case rel => exact ⟨j + 1, l.set i true, by omega, by go_num, HF.out, D', T'⟩
      case measure => simp [intOf]; omega
    ·
     have h1' : (N : Int) ≤ b := by omega
     have HF : Hid (R = (false, l)) := by show _ = _; rw [HA.out, hd.out, holdL, if_neg (fun hh => by have := hlen.out; omega)]
     go_wp2
     go_ret
     rw [HF.out]
     exact ⟨rfl, D, T⟩
  ·
   obtain rfl : n = j := by omega
   have hj0 : ¬ (n : Int) < n := by omega
   have HF : Hid (R = (true, l)) := by show _ = _; rw [HA.out, EN.out, List.drop_length]; rfl
   go_wp2
   go_ret
   rw [HF.out]
   exact ⟨rfl, D, T⟩
set_option maxRecDepth 20000 in
set_option maxHeartbeats 2000000 in
theorem leaf_any (V : World) (h g N : Nat) (v0 v1 v2 v3 v4 : Value) (c : ClimbS) (nl : Bool) (a1 a2 a3 : Option Addr) (k1 d1 k2 d2 k3 d3 : Nat) (d : Int) (D : ClimbAt V h g N v0 v1 v2 v3 v4 c) (hk : c.pairs ≤ 1000000) (hk1 : k1 ≤ 1000) :
  Calls Try.prog 27 #[.pointer (some ⟨h, 0, none⟩), .agg #[.bool nl, .slice a1 k1 d1, .slice a2 k2 d2, .slice a3 k3 d3], .int .i64 d] V fun e V' => e = .returned (.int .i64 (leafC k1 d c).1) ∧ ClimbAt V' h g N v0 v1 v2 v3 v4 (leafC k1 d c).2 ∧ Turns (fun k => k = h) V V' := by
 have hlt := D.lt
 obtain ⟨o, ho⟩ : ∃ o, o = Obj.cells #[.bool nl, .slice a1 k1 d1, .slice a2 k2 d2, .slice a3 k3 d3] 62 := ⟨_, rfl⟩
 have al : ∀ U : World, Below U.heap.size U (U.alloc o) := fun U => (Below.refl _ _).alloc (Nat.le_refl _) _
 have bn : ∀ U : World, Box4 (U.alloc o) U.heap.size (.bool nl) (.slice a1 k1 d1) (.slice a2 k2 d2) (.slice a3 k3 d3) := fun U => by rw [ho]; exact box4_new _ _ _ _ _ _ rfl
 have T : Turns (fun k => k = h) V V := Turns.refl _ _
 have hsum : IntKind.i64.wrap ((c.pairs : Int) + (k1 : Int)) = ((c.pairs + k1 : Nat) : Int) := by rw [IntKind.wrap_i64]; omega
 have x6 := (D.below (al V)).c6
 by_cases h0 : c.height = 0
 ·
  have h0' : (c.height == 0) = true := by simpa using h0
  have hL : leafC k1 d c = (0, ⟨c.held, c.pairs + k1, d, c.blocks⟩) := by unfold leafC; rw [if_pos (.inl h0)]
  rw [hL]
  have y6 := (D.below (al V)).f6
  have D1 := D.set6 d
  have T1 : Turns (fun k => k = h) V (V.setCell ⟨h, 6, none⟩ (.int .i64 d)) := T.setCell (p := ⟨h, 6, none⟩) rfl _
  have n1 := (bn (V.setCell ⟨h, 6, none⟩ (.int .i64 d))).1.2.1
  rw [World.size_setCell] at n1
  have z5 := (D1.below (al _)).c5
  have w5 := (D1.below (al _)).f5
  have z6 := (D1.below (al _)).c6
  have D2 := (D1.set5 (c.pairs + k1)).below (al _)
  have T2 : Turns (fun k => k = h) V (((V.setCell ⟨h, 6, none⟩ (.int .i64 d)).setCell ⟨h, 5, none⟩ (.int .i64 (c.pairs + k1 : Nat))).alloc o) := (T1.setCell (p := ⟨h, 5, none⟩) rfl _).tr (al _)
  have hd : (d != d) = false := by simp
  subst ho
  clear hL h0 D1 T1 al bn
  go_enter Try.func27, Try.ntmps27
  go_wp2
  go_region
  go_wp2
  go_ret
  exact ⟨rfl, D2.below (Below.refl _ _).drew, T2.drew⟩
 ·
  have h0' : (c.height == 0) = false := by simpa using h0
  by_cases h1 : c.height = d
  ·
   have hL : leafC k1 d c = (0, ⟨c.held, c.pairs + k1, d, c.blocks⟩) := by unfold leafC; rw [if_pos (.inr h1)]
   rw [hL]
   have h1' : (c.height != d) = false := by simpa using h1
   have z5 := (D.below (al V)).c5
   have w5 := (D.below (al V)).f5
   have n1 := (bn V).1.2.1
   have D2 := (D.set5 (c.pairs + k1)).below (al _)
   have T2 : Turns (fun k => k = h) V ((V.setCell ⟨h, 5, none⟩ (.int .i64 (c.pairs + k1 : Nat))).alloc o) := (T.setCell (p := ⟨h, 5, none⟩) rfl _).tr (al _)
   have D3 : ClimbAt ((V.setCell ⟨h, 5, none⟩ (.int .i64 (c.pairs + k1 : Nat))).alloc o) h g N v0 v1 v2 v3 v4 ⟨c.held, c.pairs + k1, d, c.blocks⟩ := by rw [← h1]; exact D2
   subst ho
   clear hL h0 h1 D2 al bn
   go_enter Try.func27, Try.ntmps27
   go_wp2
   go_region
   go_wp2
   go_ret
   exact ⟨rfl, D3.below (Below.refl _ _).drew, T2.drew⟩
  ·
   have hL : leafC k1 d c = (81, c) := by unfold leafC; rw [if_neg (fun hh => hh.elim h0 h1)]
   rw [hL]
   have h1' : (c.height != d) = true := by simpa using h1
   have D2 := D.below (al V)
   have T2 : Turns (fun k => k = h) V (V.alloc o) := T.tr (al _)
   subst ho
   clear hL h0 h1 al bn
   go_enter Try.func27, Try.ntmps27
   go_wp2
   go_ret
   exact ⟨rfl, D2, T2⟩
end Go.Proofs.Ytpepgpjiddophaa

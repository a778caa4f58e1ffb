/-
  The document's own same, Like, Stands and Right of nodes.
-/
import Derived.Test.YtmhnnfmggdohkaaNodeMem
namespace Go.Proofs.Ytmhnnfmggdohkaa
open Go.RowKit Plain
set_option linter.unusedVariables false

set_option maxHeartbeats 1000000 in
/-- SAME, at all rows of texts. -/
theorem sameS_any (a a' : Option Addr) (c c' : Nat) (l m : List ByteArray) (w : World) (hB : IsS w a c l) (hB' : IsS w a' c' m) :
    Calls Try.prog 37 #[.slice a l.length c, .slice a' m.length c'] w fun e w' => e = .returned (.bool (decide (l = m))) ∧ Below w.heap.size w w' := by
  obtain ⟨n, hn⟩ : ∃ n, n = l.length := ⟨_, rfl⟩
  obtain ⟨n', hn'⟩ : ∃ n, n = m.length := ⟨_, rfl⟩
  have HB : Hid (IsS w a c l) := hB
  have HB' : Hid (IsS w a' c' m) := hB'
  have HE : Hid (n = l.length) := hn
  have HE' : Hid (n' = m.length) := hn'
  have hnb : n ≤ 9223372036854775807 := by have := hB.1; have := hB.2.1; unfold maxLen at *; omega
  rw [← hn, ← hn']
  clear hB hB' hn hn'
  by_cases h : n = n'
  · have h' : (n : Int) = n' := by omega
    subst h
    go_enter Try.func37, Try.ntmps37
    go_wp2
    go_loopw [13] (fun v wr => ∃ j : Nat, j ≤ n ∧ v = .int .i64 j ∧ (∀ i, i < j → l[i]? = m[i]?) ∧ Below w.heap.size w wr) (fun v _ => n - (intOf v).toNat)
    case atStart => exact ⟨0, by omega, rfl, fun i hi => by omega, Below.refl _ _⟩
    case round =>
      obtain ⟨j, hj, rfl, hs, hbel⟩ := hrel
      have HS : Hid (∀ i, i < j → l[i]? = m[i]?) := hs
      clear hs
      by_cases hlt : j < n
      · have hlt' : (j : Int) < n := by omega
        obtain ⟨q, hq⟩ : ∃ q, Hid (l[j]? = some q) := ⟨_, List.getElem?_eq_getElem (by rw [← HE.out]; exact hlt)⟩
        obtain ⟨r, hr⟩ : ∃ q, Hid (m[j]? = some q) := ⟨_, List.getElem?_eq_getElem (by rw [← HE'.out]; exact hlt)⟩
        obtain ⟨b, o, rfl, hbl, hc0, _⟩ := HB.out.2.2 j q hq.out
        obtain ⟨b', o', rfl, hbl', hc0', _⟩ := HB'.out.2.2 j r hr.out
        have hc := cell_below hbel hc0
        have hc' := cell_below hbel hc0'
        by_cases e : q = r
        · have e1 := str_ne_false e
          go_wp2
          go_region
          go_wp2
          go_roundw
          case rel =>
            refine ⟨j + 1, by omega, by go_num, fun i hi => ?_, hbel.drew⟩
            by_cases ei : i = j
            · rw [ei, hq.out, hr.out, e]
            · exact HS.out i (by omega)
          case measure => simp [intOf]; omega
        · have e1 := str_ne_true e
          have hne : Hid (decide (l = m) = false) := by
            show _ = _
            rw [decide_eq_false_iff_not]
            rintro rfl
            have := hq.out
            rw [hr.out] at this
            exact e (Option.some.inj this).symm
          go_wp2
          go_region
          go_wp2
          go_ret
          exact ⟨ret_bool hne.out.symm, hbel.drew⟩
      · obtain rfl : j = n := by omega
        have heq : Hid (decide (l = m) = true) := by
          show _ = _
          rw [decide_eq_true_eq]
          apply List.ext_getElem?
          intro i
          by_cases hi : i < j
          · exact HS.out i hi
          · rw [List.getElem?_eq_none (by rw [← HE.out]; omega), List.getElem?_eq_none (by rw [← HE'.out]; omega)]
        go_wp2
        go_ret
        exact ⟨ret_bool heq.out.symm, hbel⟩
  · have h' : ((n : Int) != n') = true := by simp; omega
    have hne : Hid (decide (l = m) = false) := by
      show _ = _
      rw [decide_eq_false_iff_not]
      rintro rfl
      exact h (HE.out.trans HE'.out.symm)
    go_enter Try.func37, Try.ntmps37
    go_wp2
    go_ret
    exact ⟨ret_bool hne.out.symm, Below.refl _ _⟩

theorem stands_few {l : Bool} {ks vs : List ByteArray} {cs : List Int} (h : ¬ ks.length ≤ 9) : standsN l ks vs cs = false := by
  rw [Bool.eq_false_iff]; exact fun hh => h (standsN_iff.1 hh).1

theorem stands_key {l : Bool} {ks vs : List ByteArray} {cs : List Int} {j : Nat} {x : ByteArray} (hj : ks[j]? = some x) (h : ¬ (1 ≤ x.size ∧ x.size ≤ 32)) : standsN l ks vs cs = false := by
  rw [Bool.eq_false_iff]; exact fun hh => h ((standsN_iff.1 hh).2.1 x (List.mem_of_getElem? hj))

theorem stands_fall {l : Bool} {ks vs : List ByteArray} {cs : List Int} {j : Nat} {x y : ByteArray} (hj : ks[j]? = some x) (hj' : ks[j + 1]? = some y) (h : ltB x y = false) : standsN l ks vs cs = false := by
  rw [Bool.eq_false_iff]
  intro hh
  have := rising_next.1 (standsN_iff.1 hh).2.2.1 j x y hj hj'
  rw [h] at this; cases this

theorem stands_val {l : Bool} {ks vs : List ByteArray} {cs : List Int} {j : Nat} {x : ByteArray} (hj : vs[j]? = some x) (h : ¬ x.size ≤ 200) : standsN l ks vs cs = false := by
  rw [Bool.eq_false_iff]; exact fun hh => h ((standsN_iff.1 hh).2.2.2.1 x (List.mem_of_getElem? hj))

theorem stands_kid {l : Bool} {ks vs : List ByteArray} {cs : List Int} {j : Nat} {x : Int} (hj : cs[j]? = some x) (h : ¬ (10 ≤ x ∧ x ≤ 2047)) : standsN l ks vs cs = false := by
  rw [Bool.eq_false_iff]; exact fun hh => h ((standsN_iff.1 hh).2.2.2.2.1 x (List.mem_of_getElem? hj))

/-- The first j keys are keys that rise. -/
def keysTo (ks : List ByteArray) (j : Nat) : Prop :=
  (∀ i x, i < j → ks[i]? = some x → 1 ≤ x.size ∧ x.size ≤ 32) ∧ ∀ i x y, i + 1 < j → ks[i]? = some x → ks[i + 1]? = some y → ltB x y = true

theorem keysTo_zero (ks : List ByteArray) : keysTo ks 0 := ⟨fun i x h => by omega, fun i x y h => by omega⟩

theorem keysTo_first {ks : List ByteArray} {x : ByteArray} (hx : ks[0]? = some x) (h1 : 1 ≤ x.size) (h2 : x.size ≤ 32) : keysTo ks 1 := by
  refine ⟨fun i y hi hy => ?_, fun i y z h => by omega⟩
  obtain rfl : i = 0 := by omega
  rw [hx] at hy; cases hy; exact ⟨h1, h2⟩

theorem keysTo_next {ks : List ByteArray} {j : Nat} {p x : ByteArray} (h : keysTo ks (j + 1)) (hp : ks[j]? = some p) (hx : ks[j + 1]? = some x) (h1 : 1 ≤ x.size) (h2 : x.size ≤ 32) (h3 : ltB p x = true) : keysTo ks (j + 2) := by
  refine ⟨fun i y hi hy => ?_, fun i y z hi hy hz => ?_⟩
  · by_cases e : i = j + 1
    · subst e; rw [hx] at hy; cases hy; exact ⟨h1, h2⟩
    · exact h.1 i y (by omega) hy
  · by_cases e : i = j
    · subst e; rw [hp] at hy; rw [hx] at hz; cases hy; cases hz; exact h3
    · exact h.2 i y z (by omega) hy hz

def allTo {α : Type} (f : α → Prop) (vs : List α) (j : Nat) : Prop := ∀ i x, i < j → vs[i]? = some x → f x

theorem allTo_next {α : Type} {f : α → Prop} {vs : List α} {j : Nat} {x : α} (h : allTo f vs j) (hx : vs[j]? = some x) (hf : f x) : allTo f vs (j + 1) := by
  intro i y hi hy
  by_cases e : i = j
  · subst e; rw [hx] at hy; cases hy; exact hf
  · exact h i y (by omega) hy

theorem stands_all {l : Bool} {ks vs : List ByteArray} {cs : List Int} (h9 : ks.length ≤ 9) (hk : keysTo ks ks.length) (hv : allTo (fun v => v.size ≤ 200) vs vs.length) (hc : allTo (fun c => 10 ≤ c ∧ c ≤ 2047) cs cs.length) :
    standsN l ks vs cs = shapeN l ks.length vs.length cs.length := by
  have idx {α : Type} {xs : List α} {x : α} (h : x ∈ xs) : ∃ i, i < xs.length ∧ xs[i]? = some x := by
    obtain ⟨i, hi, e⟩ := List.getElem_of_mem h
    exact ⟨i, hi, by rw [List.getElem?_eq_getElem hi, e]⟩
  have key : (∀ k ∈ ks, 1 ≤ k.size ∧ k.size ≤ 32) := fun k hm => by obtain ⟨i, hi, e⟩ := idx hm; exact hk.1 i k hi e
  have ris : risingK ks = true := rising_next.2 fun i x y hx hy => hk.2 i x y (List.getElem?_eq_some_iff.1 hy).1 hx hy
  have val : (∀ v ∈ vs, v.size ≤ 200) := fun k hm => by obtain ⟨i, hi, e⟩ := idx hm; exact hv i k hi e
  have kid : (∀ c ∈ cs, 10 ≤ c ∧ c ≤ 2047) := fun k hm => by obtain ⟨i, hi, e⟩ := idx hm; exact hc i k hi e
  rw [Bool.eq_iff_iff, standsN_iff]
  exact ⟨fun h => h.2.2.2.2.2, fun h => ⟨h9, key, ris, val, kid, h⟩⟩

theorem le_text (k p : ByteArray) : (Op.bytesLess k.toList p.toList || k.toList == p.toList) = !ltB p k := by
  cases h : ltB p k with
  | true =>
    have h1 : Op.bytesLess k.toList p.toList = false := ltB_asymm h
    have h2 : ¬ k = p := by rintro rfl; rw [ltB_irrefl] at h; cases h
    rw [h1, str_eq_false h2]; rfl
  | false =>
    cases h1 : ltB k p with
    | true =>
      have : Op.bytesLess k.toList p.toList = true := h1
      rw [this]; rfl
    | false =>
      have := str_eq_true (ltB_total h1 h)
      rw [this]; simp

set_option maxRecDepth 20000 in
set_option maxHeartbeats 2000000 in
/-- STANDS, at all nodes. -/
theorem refStands_any (l : Bool) (a a' a'' : Option Addr) (c c' c'' : Nat) (ks vs : List ByteArray) (cs : List Int) (w : World) (hK : IsS w a c ks) (hV : IsS w a' c' vs) (hC : IsI w a'' c'' cs) :
    Calls Try.prog 25 #[.agg #[.bool l, .slice a ks.length c, .slice a' vs.length c', .slice a'' cs.length c'']] w fun e w' => e = .returned (.bool (standsN l ks vs cs)) ∧ Below w.heap.size w w' := by
  obtain ⟨n, hn⟩ : ∃ n, n = ks.length := ⟨_, rfl⟩
  obtain ⟨n', hn'⟩ : ∃ n, n = vs.length := ⟨_, rfl⟩
  obtain ⟨n'', hn''⟩ : ∃ n, n = cs.length := ⟨_, rfl⟩
  have hB0 : Below w.heap.size w (w.alloc (.cells #[.bool l, .slice a n c, .slice a' n' c', .slice a'' n'' c''] 25)) := (Below.refl _ _).alloc (Nat.le_refl _) _
  have HK : Hid (IsS _ a c ks) := hK.below hB0
  have HV : Hid (IsS _ a' c' vs) := hV.below hB0
  have HC : Hid (IsI _ a'' c'' cs) := hC.below hB0
  have hm : n ≤ 9223372036854775807 := by rw [hn]; exact hK.size
  have hm' : n' ≤ 9223372036854775807 := by rw [hn']; exact hV.size
  have hm'' : n'' ≤ 9223372036854775807 := by rw [hn'']; exact hC.size
  have EK : Hid (n = ks.length) := hn
  have EV : Hid (n' = vs.length) := hn'
  have EC : Hid (n'' = cs.length) := hn''
  rw [← hn, ← hn', ← hn'']
  clear hK hV hC hn hn' hn''
  by_cases h9 : (n : Int) ≤ 9
  · go_enter Try.func25, Try.ntmps25
    go_wp2
    go_loop [16] (fun v => ∃ j : Nat, j ≤ n ∧ v = .int .i64 j ∧ keysTo ks j) (fun v => n - (intOf v).toNat)
    case atStart => exact ⟨0, by omega, rfl, keysTo_zero ks⟩
    case round =>
      obtain ⟨j, hj, rfl, hA⟩ := hrel
      have HA : Hid (keysTo ks j) := hA
      clear hA
      by_cases hlt : j < n
      · have hlt' : (j : Int) < n := by omega
        obtain ⟨x, hx⟩ : ∃ x, Hid (ks[j]? = some x) := ⟨_, List.getElem?_eq_getElem (by rw [← EK.out]; exact hlt)⟩
        obtain ⟨b, o, rfl, hlb, hc, hxs⟩ := HK.out.2.2 j x hx.out
        unfold maxLen at hxs
        by_cases h1 : 1 ≤ (x.size : Int)
        · by_cases h2 : (x.size : Int) ≤ 32
          · by_cases h0 : (0 : Int) < j
            · obtain ⟨i, rfl⟩ : ∃ i, j = i + 1 := ⟨j - 1, by omega⟩
              obtain ⟨p, hp⟩ : ∃ x, Hid (ks[i]? = some x) := ⟨_, List.getElem?_eq_getElem (by rw [← EK.out]; omega)⟩
              obtain ⟨b2, o2, hbo, hlb2, hc2, hps⟩ := HK.out.2.2 i p hp.out
              obtain ⟨rfl, rfl⟩ : b2 = b ∧ o2 = o := by cases hbo; exact ⟨rfl, rfl⟩
              clear hbo hlb hlb2 hps
              have hle := le_text x p
              have hi0 : ((i + 1 : Nat) : Int) - 1 = i := by omega
              have hin : i < n := by omega
              cases hlt2 : ltB p x with
              | true =>
                rw [hlt2] at hle
                simp only [Bool.not_true] at hle
                have hN : Hid (keysTo ks (i + 1 + 1)) := keysTo_next HA.out hp.out hx.out (by omega) (by omega) hlt2
                clear hlt2
                go_wp2
                go_round
                case rel => exact ⟨i + 1 + 1, by omega, by go_num, hN.out⟩
                case measure => simp [intOf]; omega
              | false =>
                rw [hlt2] at hle
                simp only [Bool.not_false] at hle
                have hF : Hid (standsN l ks vs cs = false) := stands_fall hp.out hx.out hlt2
                clear hlt2
                go_wp2
                go_ret
                exact ⟨ret_bool hF.out.symm, hB0⟩
            · obtain rfl : j = 0 := by omega
              rw [Nat.add_zero] at hc
              go_wp2
              go_round
              case rel => exact ⟨1, by omega, by go_num, keysTo_first hx.out (by omega) (by omega)⟩
              case measure => simp [intOf]; omega
          · have hF : Hid (standsN l ks vs cs = false) := stands_key hx.out (by omega)
            go_wp2
            go_ret
            exact ⟨ret_bool hF.out.symm, hB0⟩
        · have hF : Hid (standsN l ks vs cs = false) := stands_key hx.out (by omega)
          go_wp2
          go_ret
          exact ⟨ret_bool hF.out.symm, hB0⟩
      · obtain rfl : j = n := by omega
        clear hlt
        go_wp2
        go_loop [47] (fun v => ∃ i : Nat, i ≤ n' ∧ v = .int .i64 i ∧ allTo (fun v => v.size ≤ 200) vs i) (fun v => n' - (intOf v).toNat)
        case atStart => exact ⟨0, by omega, rfl, fun i x hi => by omega⟩
        case round =>
          obtain ⟨i, hi, rfl, hA⟩ := hrel
          have HA' : Hid (allTo (fun v => v.size ≤ 200) vs i) := hA
          clear hA
          by_cases hlt : i < n'
          · have hlt' : (i : Int) < n' := by omega
            obtain ⟨x, hx⟩ : ∃ x, Hid (vs[i]? = some x) := ⟨_, List.getElem?_eq_getElem (by rw [← EV.out]; exact hlt)⟩
            obtain ⟨b, o, rfl, hlb, hc, hxs⟩ := HV.out.2.2 i x hx.out
            unfold maxLen at hxs
            by_cases h2 : (x.size : Int) ≤ 200
            · have hN : Hid (allTo (fun v => v.size ≤ 200) vs (i + 1)) := allTo_next HA'.out hx.out (by omega)
              go_wp2
              go_round
              case rel => exact ⟨i + 1, by omega, by go_num, hN.out⟩
              case measure => simp [intOf]; omega
            · have hF : Hid (standsN l ks vs cs = false) := stands_val hx.out (by omega)
              go_wp2
              go_ret
              exact ⟨ret_bool hF.out.symm, hB0⟩
          · obtain rfl : i = n' := by omega
            clear hlt
            go_wp2
            go_loop [58] (fun v => ∃ k : Nat, k ≤ n'' ∧ v = .int .i64 k ∧ allTo (fun c => 10 ≤ c ∧ c ≤ 2047) cs k) (fun v => n'' - (intOf v).toNat)
            case atStart => exact ⟨0, by omega, rfl, fun i x hi => by omega⟩
            case round =>
              obtain ⟨k, hk, rfl, hA⟩ := hrel
              have HA'' : Hid (allTo (fun c => 10 ≤ c ∧ c ≤ 2047) cs k) := hA
              clear hA
              by_cases hlt : k < n''
              · have hlt' : (k : Int) < n'' := by omega
                obtain ⟨x, hx⟩ : ∃ x, Hid (cs[k]? = some x) := ⟨_, List.getElem?_eq_getElem (by rw [← EC.out]; exact hlt)⟩
                obtain ⟨b, o, rfl, hlb, hc⟩ := HC.out.2.2 k x hx.out
                by_cases h1 : 10 ≤ x
                · by_cases h2 : x ≤ 2047
                  · have hN : Hid (allTo (fun c => 10 ≤ c ∧ c ≤ 2047) cs (k + 1)) := allTo_next HA''.out hx.out ⟨h1, h2⟩
                    go_wp2
                    go_round
                    case rel => exact ⟨k + 1, by omega, by go_num, hN.out⟩
                    case measure => simp [intOf]; omega
                  · have hF : Hid (standsN l ks vs cs = false) := stands_kid hx.out (by omega)
                    go_wp2
                    go_ret
                    exact ⟨ret_bool hF.out.symm, hB0⟩
                · have hF : Hid (standsN l ks vs cs = false) := stands_kid hx.out (by omega)
                  go_wp2
                  go_ret
                  exact ⟨ret_bool hF.out.symm, hB0⟩
              · obtain rfl : k = n'' := by omega
                clear hlt
                have hE : Hid (standsN l ks vs cs = shapeN l j i k) := by
                  show _ = _
                  rw [EK.out, EV.out, EC.out]
                  exact stands_all (by rw [← EK.out]; omega) (by rw [← EK.out]; exact HA.out) (by rw [← EV.out]; exact HA'.out) (by rw [← EC.out]; exact HA''.out)
                cases l with
                | true =>
                  by_cases h1 : (i : Int) = j
                  · go_wp2
                    go_ret
                    exact ⟨ret_bool (by rw [hE.out, Bool.eq_iff_iff, shape_leaf, beq_iff_eq]; omega), hB0⟩
                  · go_wp2
                    go_ret
                    exact ⟨ret_bool (by rw [hE.out]; exact (Bool.eq_false_iff.2 fun h => by have := shape_leaf.1 h; omega).symm), hB0⟩
                | false =>
                  by_cases h1 : (i : Int) = 0
                  · by_cases h2 : 1 ≤ (j : Int)
                    · go_wp2
                      go_ret
                      exact ⟨ret_bool (by rw [hE.out, Bool.eq_iff_iff, shape_inner, beq_iff_eq]; omega), hB0⟩
                    · go_wp2
                      go_ret
                      exact ⟨ret_bool (by rw [hE.out]; exact (Bool.eq_false_iff.2 fun h => by have := shape_inner.1 h; omega).symm), hB0⟩
                  · go_wp2
                    go_ret
                    exact ⟨ret_bool (by rw [hE.out]; exact (Bool.eq_false_iff.2 fun h => by have := shape_inner.1 h; omega).symm), hB0⟩
  · have hF : Hid (standsN l ks vs cs = false) := stands_few (by rw [← EK.out]; omega)
    go_enter Try.func25, Try.ntmps25
    go_wp2
    go_ret
    exact ⟨ret_bool hF.out.symm, hB0⟩

end Go.Proofs.Ytmhnnfmggdohkaa

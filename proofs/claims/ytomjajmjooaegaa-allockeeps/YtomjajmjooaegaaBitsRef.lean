/-
  The document's own At, Pack, Unpack and Same.
-/
import Derived.Test.YtomjajmjooaegaaBitsBytes
import Derived.BigQuiet
namespace Go.Proofs.Ytomjajmjooaegaa
open Go.RowKit Plain
set_option linter.unusedVariables false

set_option maxHeartbeats 1000000 in
/-- SAME, at all rows. -/
theorem same_any (a a' : Option Addr) (c c' : Nat) (l m : List Bool) (w : World) (hB : IsB w a c l) (hB' : IsB w a' c' m) :
    Calls Try.prog 24 #[.slice a l.length c, .slice a' m.length c'] w fun e w' => e = .returned (.bool (decide (l = m))) ∧ Below w.heap.size w w' := by
  obtain ⟨n, hn⟩ : ∃ n, n = l.length := ⟨_, rfl⟩
  obtain ⟨n', hn'⟩ : ∃ n, n = m.length := ⟨_, rfl⟩
  have HB : Hid (IsB w a c l) := hB
  have HB' : Hid (IsB w a' c' m) := hB'
  have HE : Hid (n = l.length) := hn
  have HE' : Hid (n' = m.length) := hn'
  have hnb : n ≤ 9223372036854775807 := by have := hB.1; have := hB.2.1; unfold maxLen at *; omega
  rw [← hn, ← hn']
  clear hB hB' hn hn'
  by_cases h : n = n'
  · have h' : (n : Int) = n' := by omega
    subst h
    go_enter Try.func24, Try.ntmps24
    go_wp2
    go_loopw [13] (fun v wr => ∃ j : Nat, j ≤ n ∧ v = .int .i64 j ∧ (∀ i, i < j → l[i]? = m[i]?) ∧ Below w.heap.size w wr) (fun v _ => n - (intOf v).toNat)
    case atStart => exact ⟨0, by omega, rfl, fun i hi => by omega, Below.refl _ _⟩
    case round =>
      obtain ⟨j, hj, rfl, hs, hbel⟩ := hrel
      have HS : Hid (∀ i, i < j → l[i]? = m[i]?) := hs
      clear hs
      by_cases hlt : j < n
      · have hlt' : (j : Int) < n := by omega
        obtain ⟨q, hq⟩ : ∃ q, Hid (l[j]? = some q) := ⟨_, List.getElem?_eq_getElem (by rw [← HE.out]; exact hlt)⟩
        obtain ⟨r, hr⟩ : ∃ q, Hid (m[j]? = some q) := ⟨_, List.getElem?_eq_getElem (by rw [← HE'.out]; exact hlt)⟩
        obtain ⟨b, o, rfl, hbl, hc0⟩ := HB.out.2.2 j q hq.out
        obtain ⟨b', o', rfl, hbl', hc0'⟩ := HB'.out.2.2 j r hr.out
        have hc := cell_below hbel hc0
        have hc' := cell_below hbel hc0'
        by_cases e : q = r
        · have e1 : (!q == r) = false := by rw [e]; simp
          go_wp2
          go_region
          go_wp2
          go_roundw
          case rel =>
            refine ⟨j + 1, by omega, by go_num, fun i hi => ?_, hbel.drew⟩
            by_cases ei : i = j
            · rw [ei, hq.out, hr.out, e]
            · exact HS.out i (by omega)
          case measure => simp [intOf]; omega
        · have e1 : (!q == r) = true := by simp [e]
          have hne : Hid (decide (l = m) = false) := by
            show _ = _
            rw [decide_eq_false_iff_not]
            rintro rfl
            have := hq.out
            rw [hr.out] at this
            exact e (Option.some.inj this).symm
          go_wp2
          go_region
          go_wp2
          go_ret
          exact ⟨ret_bool hne.out.symm, hbel.drew⟩
      · obtain rfl : j = n := by omega
        have heq : Hid (decide (l = m) = true) := by
          show _ = _
          rw [decide_eq_true_eq]
          apply List.ext_getElem?
          intro i
          by_cases hi : i < j
          · exact HS.out i hi
          · rw [List.getElem?_eq_none (by rw [← HE.out]; omega), List.getElem?_eq_none (by rw [← HE'.out]; omega)]
        go_wp2
        go_ret
        exact ⟨ret_bool heq.out.symm, hbel⟩
  · have h' : ((n : Int) != n') = true := by simp; omega
    have hne : Hid (decide (l = m) = false) := by
      show _ = _
      rw [decide_eq_false_iff_not]
      rintro rfl
      exact h (HE.out.trans HE'.out.symm)
    go_enter Try.func24, Try.ntmps24
    go_wp2
    go_ret
    exact ⟨ret_bool hne.out.symm, Below.refl _ _⟩

end Go.Proofs.Ytomjajmjooaegaa

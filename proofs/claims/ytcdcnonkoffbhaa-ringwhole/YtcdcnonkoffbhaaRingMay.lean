/-
  Which changes may be: package ring's mayBe, and the document's own IsChange.
-/
import Derived.Test.YtcdcnonkoffbhaaRingMem
namespace Go.Proofs.Ytcdcnonkoffbhaa
open Go.RowKit Plain
set_option linter.unusedVariables false

theorem mayC_false {c : Chg} (h : ¬ (1 ≤ c.1.size ∧ c.1.size ≤ 32 ∧ c.2.1.size ≤ 200 ∧ (c.2.2 = true → c.2.1 = ⟨#[]⟩))) : mayC c = false := by
  rw [Bool.eq_false_iff]; exact fun hh => h ((mayC_iff c).1 hh)

theorem none_size {k : ByteArray} : k = ⟨#[]⟩ ↔ k.size = 0 := by
  constructor
  · rintro rfl; rfl
  · intro h
    apply bytes_ext
    have := size_list k
    rw [h] at this
    exact List.length_eq_zero_iff.1 this

theorem emp_true {k : ByteArray} (h : k = ⟨#[]⟩) : k.toList.isEmpty = true := by rw [h, ByteArray.toList_eq]; rfl
theorem emp_false {k : ByteArray} (h : ¬ k = ⟨#[]⟩) : k.toList.isEmpty = false := by
  rw [Bool.eq_false_iff]
  intro hh
  apply h
  apply bytes_ext
  rw [← ByteArray.toList_eq]
  exact List.isEmpty_iff.1 hh

set_option maxRecDepth 20000 in
set_option maxHeartbeats 1000000 in
theorem isChange_any (k v : ByteArray) (g : Bool) (w : World) (mk : k.size ≤ maxLen) (mv : v.size ≤ maxLen) :
    Calls Try.prog 35 #[.agg #[.string k, .string v, .bool g]] w fun e w' => e = .returned (.bool (mayC (k, v, g))) ∧ Below w.heap.size w w' := by
  have mki : k.size ≤ 9223372036854775807 := mk
  have mvi : v.size ≤ 9223372036854775807 := mv
  have P := box3_new w (.string k) (.string v) (.bool g) 68
  obtain ⟨⟨p0, p1, p2⟩, -⟩ := id P
  have hB : Below w.heap.size w (w.alloc (.cells #[.string k, .string v, .bool g] 68)) := (Below.refl _ _).alloc (Nat.le_refl _) _
  obtain ⟨r, hr⟩ : ∃ r, r = mayC (k, v, g) := ⟨_, rfl⟩
  rw [← hr]
  replace hr : Hid (r = mayC (k, v, g)) := hr
  by_cases h1 : 1 ≤ k.size
  · have h1' : (1 : Int) ≤ k.size := by omega
    by_cases h2 : k.size ≤ 32
    · have h2' : (k.size : Int) ≤ 32 := by omega
      by_cases h3 : v.size ≤ 200
      · have h3' : (v.size : Int) ≤ 200 := by omega
        cases g with
        | false =>
          replace hr : Hid (r = true) := hr.out.trans ((mayC_iff _).2 ⟨h1, h2, h3, fun h => by cases h⟩)
          go_enter Try.func35, Try.ntmps35
          go_wp2
          go_ret
          exact ⟨ret_bool hr.out.symm, hB⟩
        | true =>
          by_cases h4 : v = ⟨#[]⟩
          · have h4' := emp_true h4
            replace hr : Hid (r = true) := hr.out.trans ((mayC_iff _).2 ⟨h1, h2, h3, fun _ => h4⟩)
            clear h4
            go_enter Try.func35, Try.ntmps35
            go_wp2
            go_ret
            exact ⟨ret_bool hr.out.symm, hB⟩
          · have h4' := emp_false h4
            replace hr : Hid (r = false) := hr.out.trans (mayC_false (fun h => h4 (h.2.2.2 rfl)))
            clear h4
            go_enter Try.func35, Try.ntmps35
            go_wp2
            go_ret
            exact ⟨ret_bool hr.out.symm, hB⟩
      · have h3' : ¬ (v.size : Int) ≤ 200 := by omega
        replace hr : Hid (r = false) := hr.out.trans (mayC_false (fun h => h3 h.2.2.1))
        go_enter Try.func35, Try.ntmps35
        go_wp2
        go_ret
        exact ⟨ret_bool hr.out.symm, hB⟩
    · have h2' : ¬ (k.size : Int) ≤ 32 := by omega
      replace hr : Hid (r = false) := hr.out.trans (mayC_false (fun h => h2 h.2.1))
      go_enter Try.func35, Try.ntmps35
      go_wp2
      go_ret
      exact ⟨ret_bool hr.out.symm, hB⟩
  · have h1' : ¬ (1 : Int) ≤ k.size := by omega
    replace hr : Hid (r = false) := hr.out.trans (mayC_false (fun h => h1 h.1))
    go_enter Try.func35, Try.ntmps35
    go_wp2
    go_ret
    exact ⟨ret_bool hr.out.symm, hB⟩

set_option maxRecDepth 20000 in
set_option maxHeartbeats 1000000 in
theorem mayBe_any (a : Option Addr) (c n : Nat) (cs : List Chg) (w : World) (hn : n = cs.length) (hC : IsC w a c cs) :
    Calls Try.prog 33 #[.slice a n c] w fun e w' => e = .returned (.bool (cs.all mayC)) ∧ Below w.heap.size w w' := by
  have HC : Hid (IsC w a c cs) := hC
  have HN : Hid (n = cs.length) := hn
  have hnb : n ≤ 9223372036854775807 := by have := hC.1; have := hC.2.1; unfold maxLen at *; omega
  clear hn hC
  go_enter Try.func33, Try.ntmps33
  go_wp2
  go_loopw [7] (fun v wr => ∃ j : Nat, j ≤ n ∧ v = .int .i64 j ∧ (∀ (i : Nat) x, i < j → cs[i]? = some x → mayC x = true) ∧ Below w.heap.size w wr) (fun v _ => n - (intOf v).toNat)
  case atStart => exact ⟨0, by omega, rfl, fun i x hi => by omega, Below.refl _ _⟩
  case round =>
    obtain ⟨j, hj, rfl, hA, hB⟩ := hrel
    have HA : Hid (∀ (i : Nat) x, i < j → cs[i]? = some x → mayC x = true) := hA
    clear hA
    by_cases hlt : j < n
    · obtain ⟨⟨k, v, g⟩, hx⟩ : ∃ x, cs[j]? = some x := ⟨_, List.getElem?_eq_getElem (by rw [← HN.out]; exact hlt)⟩
      obtain ⟨bk, o, rfl, hbk, d0, d1, d2, mk, mv⟩ := HC.out.2.2 j _ hx
      replace d0 := cell_below hB d0
      replace d1 := cell_below hB d1
      replace d2 := cell_below hB d2
      have mki : k.size ≤ 9223372036854775807 := mk
      have mvi : v.size ≤ 9223372036854775807 := mv
      have HX : Hid (cs[j]? = some (k, v, g)) := hx
      have hjn : (j : Int) < n := by omega
      have P := box3_new wr (.string k) (.string v) (.bool g) 68
      obtain ⟨⟨p0, p1, p2⟩, -⟩ := id P
      have hB2 : Below w.heap.size w (wr.alloc (.cells #[.string k, .string v, .bool g] 68)) := hB.alloc hB.size _
      clear hx hbk mk mv
      by_cases h1 : k = ⟨#[]⟩
      · have h1' := emp_true h1
        have hm : Hid (mayC (k, v, g) = false) := mayC_false (fun h => by have := none_size.1 h1; have h' : 1 ≤ k.size := h.1; omega)
        clear h1
        have hall : Hid (cs.all mayC = false) := by
          show _ = _
          rw [Bool.eq_false_iff]
          intro hh
          have := List.all_eq_true.1 hh _ (List.mem_of_getElem? HX.out)
          rw [hm.out] at this
          cases this
        go_wp2
        go_ret
        exact ⟨ret_bool hall.out.symm, hB2⟩
      · have h1' := emp_false h1
        have h10 : 1 ≤ k.size := by
          have : ¬ k.size = 0 := fun h => h1 (none_size.2 h)
          omega
        clear h1
        by_cases h2 : k.size ≤ 32
        · have h2' : (k.size : Int) ≤ 32 := by omega
          by_cases h3 : v.size ≤ 200
          · have h3' : (v.size : Int) ≤ 200 := by omega
            cases g with
            | false =>
              have hm : Hid (mayC (k, v, false) = true) := (mayC_iff _).2 ⟨h10, h2, h3, fun h => by cases h⟩
              go_wp2
              go_roundw
              case rel =>
                refine ⟨j + 1, by omega, by go_num, fun i x hi hx => ?_, hB2⟩
                by_cases hij : i = j
                · subst hij
                  rw [HX.out] at hx
                  obtain rfl := Option.some.inj hx
                  exact hm.out
                · exact HA.out i x (by omega) hx
              case measure => simp [intOf]; omega
            | true =>
              by_cases h4 : v = ⟨#[]⟩
              · have h4' := emp_true h4
                have hm : Hid (mayC (k, v, true) = true) := (mayC_iff _).2 ⟨h10, h2, h3, fun _ => h4⟩
                clear h4
                go_wp2
                go_roundw
                case rel =>
                  refine ⟨j + 1, by omega, by go_num, fun i x hi hx => ?_, hB2⟩
                  by_cases hij : i = j
                  · subst hij
                    rw [HX.out] at hx
                    obtain rfl := Option.some.inj hx
                    exact hm.out
                  · exact HA.out i x (by omega) hx
                case measure => simp [intOf]; omega
              · have h4' := emp_false h4
                have hm : Hid (mayC (k, v, true) = false) := mayC_false (fun h => h4 (h.2.2.2 rfl))
                clear h4
                have hall : Hid (cs.all mayC = false) := by
                  show _ = _
                  rw [Bool.eq_false_iff]
                  intro hh
                  have := List.all_eq_true.1 hh _ (List.mem_of_getElem? HX.out)
                  rw [hm.out] at this
                  cases this
                go_wp2
                go_ret
                exact ⟨ret_bool hall.out.symm, hB2⟩
          · have h3' : ¬ (v.size : Int) ≤ 200 := by omega
            have hm : Hid (mayC (k, v, g) = false) := mayC_false (fun h => h3 h.2.2.1)
            have hall : Hid (cs.all mayC = false) := by
              show _ = _
              rw [Bool.eq_false_iff]
              intro hh
              have := List.all_eq_true.1 hh _ (List.mem_of_getElem? HX.out)
              rw [hm.out] at this
              cases this
            go_wp2
            go_ret
            exact ⟨ret_bool hall.out.symm, hB2⟩
        · have h2' : ¬ (k.size : Int) ≤ 32 := by omega
          have hm : Hid (mayC (k, v, g) = false) := mayC_false (fun h => h2 h.2.1)
          have hall : Hid (cs.all mayC = false) := by
            show _ = _
            rw [Bool.eq_false_iff]
            intro hh
            have := List.all_eq_true.1 hh _ (List.mem_of_getElem? HX.out)
            rw [hm.out] at this
            cases this
          go_wp2
          go_ret
          exact ⟨ret_bool hall.out.symm, hB2⟩
    · obtain rfl : j = n := by omega
      have hall : Hid (cs.all mayC = true) := by
        show _ = _
        rw [List.all_eq_true]
        intro x hx
        obtain ⟨i, hi⟩ := List.getElem?_of_mem hx
        have hlt := (List.getElem?_eq_some_iff.1 hi).1
        exact HA.out i x (by rw [HN.out]; exact hlt) hi
      go_wp2
      go_ret
      exact ⟨ret_bool hall.out.symm, hB⟩

end Go.Proofs.Ytcdcnonkoffbhaa

/-
  Package bits: shortest, allHave, Count, longest, either, First.
-/
import Derived.Test.YtomjajmjooaegaaBitsRef
namespace Go.Proofs.Ytomjajmjooaegaa
open Go.RowKit Plain
set_option linter.unusedVariables false

/-- The least length. -/
def least (n : Nat) : List (List Bool) → Nat
  | [] => n
  | l :: ls => least (min n l.length) ls

theorem least_append (n : Nat) (xs ys : List (List Bool)) : least n (xs ++ ys) = least (least n xs) ys := by
  induction xs generalizing n with
  | nil => rfl
  | cons x xs ih => rw [List.cons_append, least, least, ih]

theorem least_le (n : Nat) (ls : List (List Bool)) : least n ls ≤ n := by
  induction ls generalizing n with
  | nil => exact Nat.le_refl _
  | cons x xs ih => rw [least]; have := ih (min n x.length); omega

theorem least_mem (n : Nat) (ls : List (List Bool)) : ∀ l ∈ ls, least n ls ≤ l.length := by
  induction ls generalizing n with
  | nil => intro l hl; cases hl
  | cons x xs ih =>
    intro l hl
    rw [least]
    rcases List.mem_cons.1 hl with rfl | hl
    · have := least_le (min n l.length) xs; omega
    · exact ih _ l hl

theorem least_is (n : Nat) (ls : List (List Bool)) : least n ls = n ∨ ∃ l ∈ ls, l.length = least n ls := by
  induction ls generalizing n with
  | nil => exact .inl rfl
  | cons x xs ih =>
    rw [least]
    rcases ih (min n x.length) with h | ⟨l, hl, h⟩
    · rw [h]
      by_cases e : n ≤ x.length
      · exact .inl (by omega)
      · exact .inr ⟨x, by simp, by omega⟩
    · exact .inr ⟨l, by simp [hl], h⟩

/-- How many places all lists have. -/
def shortestB (ls : List (List Bool)) : Nat := match ls with
  | [] => 0
  | l :: _ => least l.length ls

theorem shortestB_is {ls : List (List Bool)} (h : ls ≠ []) : ∃ l ∈ ls, l.length = shortestB ls := by
  cases ls with
  | nil => exact absurd rfl h
  | cons x xs =>
    rcases least_is x.length (x :: xs) with h | h
    · exact ⟨x, by simp, h.symm⟩
    · exact h

theorem shortestB_le (ls : List (List Bool)) : ∀ l ∈ ls, shortestB ls ≤ l.length := by
  cases ls with
  | nil => intro l hl; cases hl
  | cons x xs => exact least_mem _ _

theorem countN_nil (n : Nat) (h : n = 0) : countN [] n = 0 := by subst h; rfl

/-- Only places that all lists have count. -/
theorem countB_short (ls : List (List Bool)) : countN ls (shortestB ls) = countB ls := by
  by_cases h : ls = []
  · subst h; rfl
  · obtain ⟨l, hl, he⟩ := shortestB_is h
    unfold countB
    rw [← he, ← countN_past hl _ (longest_le hl)]

theorem take_rows {ds : List (Option Addr × Nat × List Bool)} {j : Nat} {d : (Option Addr × Nat × List Bool)} (h : ds[j]? = some d) : rowsOf (ds.take (j + 1)) = rowsOf (ds.take j) ++ [d.2.2] := by
  unfold rowsOf; rw [List.take_add_one, h, List.map_append]; rfl

set_option maxHeartbeats 1000000 in
theorem longest_any (a : Option Addr) (c : Nat) (ds : List (Option Addr × Nat × List Bool)) (w : World) (hL : IsL w a c ds) :
    Calls Try.prog 34 #[.slice a ds.length c] w fun e w' => e = .returned (.int .i64 (longest (rowsOf ds))) ∧ w = w' := by
  obtain ⟨n, hn⟩ : ∃ n, n = ds.length := ⟨_, rfl⟩
  have hnb : n ≤ 9223372036854775807 := by rw [hn]; exact Nat.le_trans hL.1 hL.2.1
  have HL : Hid (IsL w a c ds) := hL
  have HN : Hid (n = ds.length) := hn
  rw [← hn]
  clear hL hn
  go_enter Try.func34, Try.ntmps34
  go_wp2
  go_loopw [3, 7] (fun u v wr => ∃ j m : Nat, j ≤ n ∧ v = .int .i64 j ∧ m = longest (rowsOf (ds.take j)) ∧ u = .int .i64 m ∧ w = wr) (fun _ v _ => n - (intOf v).toNat)
  case atStart => exact ⟨0, 0, by omega, rfl, rfl, rfl, by trivial⟩
  case round =>
    obtain ⟨j, m, hj, rfl, hm, rfl, rfl⟩ := hrel
    have HM : Hid (m = longest (rowsOf (ds.take j))) := hm
    clear hm
    by_cases hlt : j < n
    · have hlt' : (j : Int) < n := by omega
      obtain ⟨d, hd⟩ : ∃ d, Hid (ds[j]? = some d) := ⟨_, List.getElem?_eq_getElem (by rw [← HN.out]; exact hlt)⟩
      obtain ⟨hdB, b, o, rfl, hbl, hc⟩ := HL.out.2.2 j d hd.out
      obtain ⟨k, hk⟩ : ∃ k, k = d.2.2.length := ⟨_, rfl⟩
      have hkb : k ≤ 9223372036854775807 := by rw [hk]; exact Nat.le_trans hdB.1 hdB.2.1
      rw [← hk] at hc
      have hnx : Hid (longest (rowsOf (ds.take (j + 1))) = max m k) := by
        show _ = _
        rw [take_rows hd.out, longest_append, ← HM.out, hk]
        simp [longest]
      generalize d.1 = da at hc hdB
      generalize d.2.1 = dc at hc hdB
      clear hdB hk hd
      obtain ⟨mx, hmx, hmx'⟩ : ∃ mx : Nat, Hid (mx = max m k) ∧ max (m : Int) k = mx := ⟨_, rfl, by omega⟩
      have hmr := max_run hmx'
      clear hmx'
      go_wp2
      go_roundw
      case rel => exact ⟨j + 1, mx, by omega, by go_num, by rw [hnx.out]; exact hmx.out, rfl, by trivial⟩
      case measure => simp [intOf]; omega
    · obtain rfl : j = n := by omega
      have he : Hid ((m : Int) = ((longest (rowsOf ds) : Nat) : Int)) := by show _ = _; rw [HM.out, HN.out, List.take_length]
      go_wp2
      go_ret
      exact ⟨ret_int he.out, rfl⟩

theorem take_all {ds : List (Option Addr × Nat × List Bool)} {n : Nat} (h : n = ds.length) : rowsOf (ds.take n) = rowsOf ds := by rw [h, List.take_length]

set_option maxHeartbeats 1000000 in
theorem shortest_any (a : Option Addr) (c : Nat) (ds : List (Option Addr × Nat × List Bool)) (w : World) (hL : IsL w a c ds) :
    Calls Try.prog 31 #[.slice a ds.length c] w fun e w' => e = .returned (.int .i64 (shortestB (rowsOf ds))) ∧ w = w' := by
  obtain ⟨n, hn⟩ : ∃ n, n = ds.length := ⟨_, rfl⟩
  have hnb : n ≤ 9223372036854775807 := by rw [hn]; exact Nat.le_trans hL.1 hL.2.1
  have HL : Hid (IsL w a c ds) := hL
  have HN : Hid (n = ds.length) := hn
  rw [← hn]
  clear hL hn
  by_cases h0 : n = 0
  · have he : Hid ((0 : Int) = ((shortestB (rowsOf ds) : Nat) : Int)) := by
      show _ = _
      have : ds = [] := List.length_eq_zero_iff.1 (HN.out.symm.trans h0)
      rw [this]; rfl
    subst h0
    go_enter Try.func31, Try.ntmps31
    go_wp2
    go_ret
    exact ⟨ret_int he.out, rfl⟩
  · have h0' : ((n : Int) == 0) = false := by simp; omega
    have h0n : 0 < n := by omega
    have h0i : (0 : Int) < n := by omega
    obtain ⟨d0, hd0⟩ : ∃ d, Hid (ds[0]? = some d) := ⟨ds[0]'(by rw [← HN.out]; exact h0n), show _ = _ from List.getElem?_eq_getElem (by rw [← HN.out]; exact h0n)⟩
    obtain ⟨hdB0, b, o, rfl, hbl, hc0⟩ := HL.out.2.2 0 d0 hd0.out
    obtain ⟨k0, hk0⟩ : ∃ k, Hid (k = d0.2.2.length) := ⟨_, rfl⟩
    have hkb0 : k0 ≤ 9223372036854775807 := by rw [hk0.out]; exact Nat.le_trans hdB0.1 hdB0.2.1
    rw [← hk0.out] at hc0
    have hsh : Hid (shortestB (rowsOf ds) = least k0 (rowsOf ds)) := by
      show _ = _
      cases hds : ds with
      | nil => rw [hds] at hd0; cases hd0.out
      | cons x xs =>
        have hx := hd0.out
        rw [hds] at hx
        simp at hx
        subst hx
        rw [hk0.out]; rfl
    generalize d0.1 = da0 at hc0 hdB0
    generalize d0.2.1 = dc0 at hc0 hdB0
    clear hdB0 hd0
    rw [Nat.add_zero] at hc0
    go_enter Try.func31, Try.ntmps31
    go_wp2
    go_loopw [3, 14] (fun u v wr => ∃ j m : Nat, j ≤ n ∧ v = .int .i64 j ∧ m = least k0 (rowsOf (ds.take j)) ∧ m ≤ k0 ∧ u = .int .i64 m ∧ w = wr) (fun _ v _ => n - (intOf v).toNat)
    case atStart => exact ⟨0, k0, by omega, rfl, rfl, Nat.le_refl _, rfl, by trivial⟩
    case round =>
      obtain ⟨j, m, hj, rfl, hm, hmk, rfl, rfl⟩ := hrel
      have HM : Hid (m = least k0 (rowsOf (ds.take j))) := hm
      clear hm
      by_cases hlt : j < n
      · have hlt' : (j : Int) < n := by omega
        obtain ⟨d, hd⟩ : ∃ d, Hid (ds[j]? = some d) := ⟨_, List.getElem?_eq_getElem (by rw [← HN.out]; exact hlt)⟩
        obtain ⟨hdB, b', o', he, hbl, hc⟩ := HL.out.2.2 j d hd.out
        cases he
        obtain ⟨k, hk⟩ : ∃ k, k = d.2.2.length := ⟨_, rfl⟩
        have hkb : k ≤ 9223372036854775807 := by rw [hk]; exact Nat.le_trans hdB.1 hdB.2.1
        rw [← hk] at hc
        have hnx : Hid (least k0 (rowsOf (ds.take (j + 1))) = min m k) := by
          show _ = _
          rw [take_rows hd.out, least_append, ← HM.out, hk]
          simp [least]
        generalize d.1 = da at hc hdB
        generalize d.2.1 = dc at hc hdB
        clear hdB hk hd
        obtain ⟨mx, hmx, hmx', hmk2⟩ : ∃ mx : Nat, Hid (mx = min m k) ∧ min (m : Int) k = mx ∧ mx ≤ k0 := ⟨_, rfl, by omega, by omega⟩
        have hmr := min_run hmx'
        clear hmx'
        go_wp2
        go_roundw
        case rel => exact ⟨j + 1, mx, by omega, by go_num, by rw [hnx.out]; exact hmx.out, hmk2, rfl, by trivial⟩
        case measure => simp [intOf]; omega
      · obtain rfl : j = n := by omega
        have he : Hid ((m : Int) = ((shortestB (rowsOf ds) : Nat) : Int)) := by show _ = _; rw [HM.out, take_all HN.out, hsh.out]
        go_wp2
        go_ret
        exact ⟨ret_int he.out, rfl⟩

/-- Whether all lists have a place. -/
def allB (ls : List (List Bool)) (i : Nat) : Bool := decide (howB ls i = ls.length)

theorem allB_yes {ls : List (List Bool)} {i : Nat} (h : ∀ l ∈ ls, atB l i = true) : allB ls i = true := decide_eq_true (howB_all.2 h)
theorem allB_no {ls : List (List Bool)} {i : Nat} {l : List Bool} (hl : l ∈ ls) (h : atB l i = false) : allB ls i = false := by
  refine decide_eq_false fun hh => ?_
  have := howB_all.1 hh l hl
  rw [h] at this; cases this

set_option maxHeartbeats 1000000 in
theorem allHave_any (a : Option Addr) (c : Nat) (ds : List (Option Addr × Nat × List Bool)) (i : Nat) (w : World) (hL : IsL w a c ds) (hi : ∀ l ∈ rowsOf ds, i < l.length) :
    Calls Try.prog 32 #[.slice a ds.length c, .int .i64 i] w fun e w' => e = .returned (.bool (allB (rowsOf ds) i)) ∧ w = w' := by
  obtain ⟨n, hn⟩ : ∃ n, n = ds.length := ⟨_, rfl⟩
  have hnb : n ≤ 9223372036854775807 := by rw [hn]; exact Nat.le_trans hL.1 hL.2.1
  have HL : Hid (IsL w a c ds) := hL
  have HN : Hid (n = ds.length) := hn
  have HI : Hid (∀ l ∈ rowsOf ds, i < l.length) := hi
  rw [← hn]
  clear hL hn hi
  go_enter Try.func32, Try.ntmps32
  go_wp2
  go_loopw [8] (fun v wr => ∃ j : Nat, j ≤ n ∧ v = .int .i64 j ∧ (∀ l ∈ rowsOf (ds.take j), atB l i = true) ∧ w = wr) (fun v _ => n - (intOf v).toNat)
  case atStart => exact ⟨0, by omega, rfl, fun l hl => (by cases hl), by trivial⟩
  case round =>
    obtain ⟨j, hj, rfl, hall, rfl⟩ := hrel
    have HA : Hid (∀ l ∈ rowsOf (ds.take j), atB l i = true) := hall
    clear hall
    by_cases hlt : j < n
    · have hlt' : (j : Int) < n := by omega
      obtain ⟨d, hd⟩ : ∃ d, Hid (ds[j]? = some d) := ⟨_, List.getElem?_eq_getElem (by rw [← HN.out]; exact hlt)⟩
      have hmem : Hid (d.2.2 ∈ rowsOf ds) := List.mem_of_getElem? (rowsOf_get hd.out)
      obtain ⟨hdB, b, o, rfl, hbl, hc⟩ := HL.out.2.2 j d hd.out
      obtain ⟨q, hq⟩ : ∃ q, Hid (d.2.2[i]? = some q) := ⟨_, List.getElem?_eq_getElem (HI.out _ hmem.out)⟩
      obtain ⟨b2, o2, ha2, hbl2, hc2⟩ := hdB.2.2 i q hq.out
      have hik : i < d.2.2.length := HI.out _ hmem.out
      rw [ha2] at hc
      obtain ⟨k, hk⟩ : ∃ k, k = d.2.2.length := ⟨_, rfl⟩
      rw [← hk] at hc hik
      have hik' : (i : Int) < k := by omega
      generalize d.2.1 = dc at hc hdB
      clear hdB hk
      cases q with
      | false =>
        have hE : Hid (allB (rowsOf ds) i = false) := allB_no hmem.out (atB_some hq.out)
        go_wp2
        go_ret
        exact ⟨ret_bool hE.out.symm, rfl⟩
      | true =>
        have hE : Hid (∀ l ∈ rowsOf (ds.take (j + 1)), atB l i = true) := by
          intro l hl
          rw [take_rows hd.out] at hl
          rcases List.mem_append.1 hl with h | h
          · exact HA.out l h
          · obtain rfl : l = d.2.2 := by simpa using h
            exact atB_some hq.out
        go_wp2
        go_roundw
        case rel => exact ⟨j + 1, by omega, by go_num, hE.out, by trivial⟩
        case measure => simp [intOf]; omega
    · obtain rfl : j = n := by omega
      have hE : Hid (allB (rowsOf ds) i = true) := allB_yes (by have := HA.out; rw [take_all HN.out] at this; exact this)
      go_wp2
      go_ret
      exact ⟨ret_bool hE.out.symm, rfl⟩

theorem countN_succ (ls : List (List Bool)) (n : Nat) : countN ls (n + 1) = countN ls n + bn (allB ls n) := rfl

set_option maxHeartbeats 1000000 in
/-- COUNT, of all rows. -/
theorem count_any (a : Option Addr) (c : Nat) (ds : List (Option Addr × Nat × List Bool)) (w : World) (hL : IsL w a c ds) :
    Calls Try.prog 25 #[.slice a ds.length c] w fun e w' => e = .returned (.int .i64 (countB (rowsOf ds))) ∧ w = w' := by
  obtain ⟨n, hn⟩ : ∃ n, n = ds.length := ⟨_, rfl⟩
  obtain ⟨k, hk⟩ : ∃ k, k = shortestB (rowsOf ds) := ⟨_, rfl⟩
  have hnb : n ≤ 9223372036854775807 := by rw [hn]; exact Nat.le_trans hL.1 hL.2.1
  have hkb : k ≤ 9223372036854775807 := by
    rw [hk]
    by_cases h : rowsOf ds = []
    · rw [h]; exact Nat.zero_le _
    · obtain ⟨l, hl, he⟩ := shortestB_is h
      rw [← he]; exact hL.rows_le l hl
  have cs : ∀ W, w = W → Calls Try.prog 31 #[.slice a n c] W fun e w' => e = .returned (.int .i64 k) ∧ w = w' := by
    rintro W rfl; rw [hn, hk]; exact shortest_any a c ds w hL
  have ca : ∀ (i : Nat) W, i < k → w = W → Calls Try.prog 32 #[.slice a n c, .int .i64 i] W fun e w' => e = .returned (.bool (allB (rowsOf ds) i)) ∧ w = w' := by
    rintro i W hi rfl; rw [hn]; exact allHave_any a c ds i w hL fun l hl => by have := shortestB_le _ l hl; omega
  have HK : Hid (k = shortestB (rowsOf ds)) := hk
  rw [← hn]
  clear hL hn hk
  go_enter Try.func25, Try.ntmps25
  go_wp2_with (go_at_call 31; refine (cs _ rfl).mono ?_; rintro e w' ⟨rfl, rfl⟩)
  go_loopw [3, 7] (fun u v wr => ∃ j m : Nat, j ≤ k ∧ v = .int .i64 j ∧ m = countN (rowsOf ds) j ∧ m ≤ j ∧ u = .int .i64 m ∧ w = wr) (fun _ v _ => k - (intOf v).toNat)
  case atStart => exact ⟨0, 0, by omega, rfl, rfl, Nat.le_refl _, rfl, by trivial⟩
  case round =>
    obtain ⟨j, m, hj, rfl, hm, hmj, rfl, rfl⟩ := hrel
    have HM : Hid (m = countN (rowsOf ds) j) := hm
    clear hm
    by_cases hlt : j < k
    · have hlt' : (j : Int) < k := by omega
      obtain ⟨q, hq⟩ : ∃ q, Hid (allB (rowsOf ds) j = q) := ⟨_, rfl⟩
      have ca' : ∀ W, w = W → Calls Try.prog 32 #[.slice a n c, .int .i64 j] W fun e w' => e = .returned (.bool q) ∧ w = w' := by
        intro W hW; rw [← hq.out]; exact ca j W hlt hW
      have hnx : Hid (countN (rowsOf ds) (j + 1) = m + bn q) := by show _ = _; rw [countN_succ, ← HM.out, hq.out]
      cases q with
      | true =>
        go_wp2_with (go_at_call 32; refine (ca' _ rfl).mono ?_; rintro e w' ⟨rfl, rfl⟩)
        go_roundw
        case rel => exact ⟨j + 1, m + 1, by omega, by go_num, hnx.out.symm, by omega, by go_num, by trivial⟩
        case measure => simp [intOf]; omega
      | false =>
        go_wp2_with (go_at_call 32; refine (ca' _ rfl).mono ?_; rintro e w' ⟨rfl, rfl⟩)
        go_roundw
        case rel => exact ⟨j + 1, m, by omega, by go_num, hnx.out.symm, by omega, rfl, by trivial⟩
        case measure => simp [intOf]; omega
    · obtain rfl : j = k := by omega
      have he : Hid ((m : Int) = ((countB (rowsOf ds) : Nat) : Int)) := by show _ = _; rw [HM.out, HK.out, countB_short]
      go_wp2
      go_ret
      exact ⟨ret_int he.out, rfl⟩

/-! The first free place -/

def anyB (ls : List (List Bool)) (i : Nat) : Bool := ls.any fun l => atB l i

theorem anyB_how {ls : List (List Bool)} {i : Nat} : anyB ls i = false ↔ howB ls i = 0 := by
  rw [howB_none]
  unfold anyB
  rw [List.any_eq_false]

/-- The lists laid over one another: the first k of them, and of one more the first t places. -/
def eithN (N : Nat) (ls : List (List Bool)) (x : List Bool) (t : Nat) : List Bool := (List.range N).map fun i => anyB ls i || (decide (i < t) && atB x i)

theorem eithN_length (N : Nat) (ls : List (List Bool)) (x : List Bool) (t : Nat) : (eithN N ls x t).length = N := by simp [eithN]
theorem eithN_get {N i : Nat} (ls : List (List Bool)) (x : List Bool) (t : Nat) (h : i < N) : (eithN N ls x t)[i]? = some (anyB ls i || (decide (i < t) && atB x i)) := by
  unfold eithN; rw [List.getElem?_map, List.getElem?_range h]; rfl

theorem eithN_zero (N : Nat) (x : List Bool) : eithN N [] x 0 = List.replicate N false := by
  unfold eithN
  apply List.ext_getElem?
  intro i
  by_cases h : i < N
  · rw [List.getElem?_map, List.getElem?_range h, List.getElem?_replicate, if_pos h]; simp [anyB]
  · rw [List.getElem?_eq_none (by simp; omega), List.getElem?_eq_none (by simp; omega)]

theorem eithN_start (N : Nat) (ls : List (List Bool)) (x y : List Bool) : eithN N ls x 0 = eithN N ls y 0 := by
  unfold eithN; apply List.map_congr_left; intro i _; simp

theorem eithN_next (N : Nat) (ls : List (List Bool)) (x y : List Bool) (t : Nat) (ht : t = x.length) : eithN N ls x t = eithN N (ls ++ [x]) y 0 := by
  unfold eithN
  apply List.map_congr_left
  intro i _
  have : anyB (ls ++ [x]) i = (anyB ls i || atB x i) := by unfold anyB; rw [List.any_append]; simp
  rw [this]
  by_cases h : i < t
  · simp [h]
  · rw [atB_past (by omega)]; simp

theorem eithN_set {N t : Nat} (ls : List (List Bool)) (x : List Bool) (h : t < N) : (eithN N ls x t).set t (anyB ls t || atB x t) = eithN N ls x (t + 1) := by
  apply List.ext_getElem?
  intro i
  by_cases hi : i < N
  · rw [eithN_get ls x (t + 1) hi]
    by_cases e : t = i
    · subst e
      rw [List.getElem?_set_self (by rw [eithN_length]; exact h)]
      simp
    · rw [List.getElem?_set_ne e, eithN_get ls x t hi, show decide (i < t + 1) = decide (i < t) from by rw [decide_eq_decide]; omega]
  · rw [List.getElem?_eq_none (by rw [List.length_set, eithN_length]; omega), List.getElem?_eq_none (by rw [eithN_length]; omega)]

set_option maxRecDepth 20000 in
set_option maxHeartbeats 2000000 in
theorem either_any (a : Option Addr) (c : Nat) (ds : List (Option Addr × Nat × List Bool)) (w : World) (hL : IsL w a c ds) (hb : ∀ l ∈ rowsOf ds, l.length ≤ 4096) :
    Calls Try.prog 33 #[.slice a ds.length c] w fun e w' => e = .returned (.slice (some ⟨w.heap.size, 0, none⟩) (longest (rowsOf ds)) (longest (rowsOf ds))) ∧ RowT w' w.heap.size (longest (rowsOf ds)) (eithN (longest (rowsOf ds)) (rowsOf ds) [] 0) ∧ Below w.heap.size w w' := by
  obtain ⟨n, hn⟩ : ∃ n, n = ds.length := ⟨_, rfl⟩
  obtain ⟨N, hN⟩ : ∃ k, k = longest (rowsOf ds) := ⟨_, rfl⟩
  have hnb : n ≤ 9223372036854775807 := by rw [hn]; exact Nat.le_trans hL.1 hL.2.1
  have hNb : N ≤ 4096 := by rw [hN]; exact longest_bound hb
  have cl : ∀ W, w = W → Calls Try.prog 34 #[.slice a n c] W fun e w' => e = .returned (.int .i64 N) ∧ w = w' := by
    rintro W rfl; rw [hn, hN]; exact longest_any a c ds w hL
  have HL : Hid (IsL w a c ds) := hL
  have HN : Hid (n = ds.length) := hn
  have HX : Hid (∀ l ∈ rowsOf ds, l.length ≤ N) := fun l hl => by rw [hN]; exact longest_le hl
  obtain ⟨Z, hmk, hZ⟩ : ∃ Z : Array Value, (∀ W : World, (Instr.makeSlice 22 (.int .i64 N) (.int .i64 N)).run Try.prog W = .ok (.slice (some ⟨W.heap.size, 0, none⟩) N N) (W.alloc (.cells Z 4))) ∧ Hid (Z = (List.replicate N (Value.bool false)).toArray) :=
    ⟨madeCells #[.bool false] N, fun W => run_make_row' (P := Try.prog) 22 4 (.bool false) 1 Try.underlying22 Try.info4 rfl .i64 .i64 N (by omega) (by omega) W, made_one _ N⟩
  have HR : Hid (RowT (w.alloc (.cells Z 4)) w.heap.size N (eithN N (rowsOf (ds.take 0)) [] 0)) := by
    show RowT _ _ _ _
    rw [show rowsOf (ds.take 0) = [] from rfl, eithN_zero]
    exact RowT.new w N hZ.out rfl (by unfold maxLen; omega)
  rw [← hn, ← hN]
  clear hL hn hN hb
  go_enter Try.func33, Try.ntmps33
  go_wp2_with (go_at_call 34; refine (cl _ rfl).mono ?_; rintro e w' ⟨rfl, rfl⟩)
  clear cl
  go_loopw [11] (fun v wr => ∃ j : Nat, j ≤ n ∧ v = .int .i64 j ∧ RowT wr w.heap.size N (eithN N (rowsOf (ds.take j)) [] 0) ∧ Below w.heap.size w wr) (fun v _ => n - (intOf v).toNat)
  case atStart => exact ⟨0, by omega, rfl, HR.out, (Below.refl _ _).alloc (Nat.le_refl _) _⟩
  case round =>
    obtain ⟨j, hj, rfl, hrow, hbel⟩ := hrel
    have HW : Hid (RowT wr w.heap.size N (eithN N (rowsOf (ds.take j)) [] 0)) := hrow
    clear hrow
    by_cases hlt : j < n
    · have hlt' : (j : Int) < n := by omega
      obtain ⟨d, hd⟩ : ∃ d, Hid (ds[j]? = some d) := ⟨_, List.getElem?_eq_getElem (by rw [← HN.out]; exact hlt)⟩
      have hmem : Hid (d.2.2 ∈ rowsOf ds) := List.mem_of_getElem? (rowsOf_get hd.out)
      obtain ⟨hdB, b, o, rfl, hbl, hc0⟩ := HL.out.2.2 j d hd.out
      have hnx : Hid (rowsOf (ds.take (j + 1)) = rowsOf (ds.take j) ++ [d.2.2]) := take_rows hd.out
      have hxN := HX.out _ hmem.out
      clear hd hmem
      obtain ⟨da, dc, x⟩ := d
      simp only at hdB hc0 hnx hxN
      obtain ⟨k, hk⟩ : ∃ k, k = x.length := ⟨_, rfl⟩
      have HK : Hid (k = x.length) := hk
      have HD : Hid (IsB w da dc x) := hdB
      rw [← hk] at hc0 hxN
      clear hdB hk
      have hc := cell_below hbel hc0
      generalize rowsOf (ds.take j) = ls at HW hnx
      have HW0 : Hid (RowT wr w.heap.size N (eithN N ls x 0)) := by show RowT _ _ _ _; rw [eithN_start N ls x []]; exact HW.out
      go_wp2
      go_loopw [19] (fun v wq => ∃ t : Nat, t ≤ k ∧ v = .int .i64 t ∧ RowT wq w.heap.size N (eithN N ls x t) ∧ Below w.heap.size w wq) (fun v _ => k - (intOf v).toNat)
      case atStart => exact ⟨0, by omega, rfl, HW0.out, hbel⟩
      case round =>
        obtain ⟨t, ht, rfl, hrow, hbel2⟩ := hrel
        have HT : Hid (RowT wr w.heap.size N (eithN N ls x t)) := hrow
        clear hrow
        by_cases htl : t < k
        · have htl' : (t : Int) < k := by omega
          have htN : t < N := by omega
          have htN' : (t : Int) < N := by omega
          obtain ⟨y, hy⟩ : ∃ y, Hid (anyB ls t = y) := ⟨_, rfl⟩
          have hyg : Hid ((eithN N ls x t)[t]? = some y) := by show _ = _; rw [eithN_get ls x t htN, hy.out]; simp
          obtain ⟨hcy, hfy⟩ := HT.out.cell hyg.out
          obtain ⟨q, hq⟩ : ∃ q, Hid (x[t]? = some q) := ⟨_, List.getElem?_eq_getElem (by rw [← HK.out]; exact htl)⟩
          have hset : Hid (RowT (wr.setCell ⟨w.heap.size, t, none⟩ (.bool (y || q))) w.heap.size N (eithN N ls x (t + 1))) := by
            show RowT _ _ _ _
            rw [← eithN_set ls x htN, hy.out, atB_some hq.out]
            exact HT.out.set t _
          obtain ⟨b2, o2, ha2, hbl2, hc20⟩ := HD.out.2.2 t q hq.out
          have hc2 := cell_below hbel2 hc20
          have hcr := cell_below hbel2 hc0
          rw [ha2] at hcr
          clear hq hy hyg HW0 HW
          cases y with
          | true =>
            rw [Bool.true_or] at hset
            go_wp2
            go_roundw
            case rel => exact ⟨t + 1, by omega, by go_num, hset.out, hbel2.setCell (p := ⟨w.heap.size, t, none⟩) (Nat.le_refl _) _⟩
            case measure => simp [intOf]; omega
          | false =>
            rw [Bool.false_or] at hset
            go_wp2
            go_roundw
            case rel => exact ⟨t + 1, by omega, by go_num, hset.out, hbel2.setCell (p := ⟨w.heap.size, t, none⟩) (Nat.le_refl _) _⟩
            case measure => simp [intOf]; omega
        · obtain rfl : t = k := by omega
          have hfin : Hid (RowT wr w.heap.size N (eithN N (rowsOf (ds.take (j + 1))) [] 0)) := by
            show RowT _ _ _ _
            rw [hnx.out, ← eithN_next N ls x [] t HK.out]
            exact HT.out
          go_wp2
          go_roundw
          case rel => exact ⟨j + 1, by omega, by go_num, hfin.out, hbel2⟩
          case measure => simp [intOf]; omega
    · obtain rfl : j = n := by omega
      have hR2 : Hid (RowT wr w.heap.size N (eithN N (rowsOf ds) [] 0)) := by have := HW.out; rw [take_all HN.out] at this; exact this
      go_wp2
      go_ret
      exact ⟨rfl, hR2.out, hbel⟩

theorem eithN_all (N : Nat) (ls : List (List Bool)) {i : Nat} (h : i < N) : (eithN N ls [] 0)[i]? = some (anyB ls i) := by
  rw [eithN_get ls [] 0 h]; simp

set_option maxHeartbeats 1000000 in
/-- FIRST, of rows that are not too long to be laid over one another. -/
theorem first_any (fr : Int) (a : Option Addr) (c : Nat) (ds : List (Option Addr × Nat × List Bool)) (w : World) (hL : IsL w a c ds) (hb : ∀ l ∈ rowsOf ds, l.length ≤ 4096) :
    Calls Try.prog 26 #[.int .i64 fr, .slice a ds.length c] w fun e w' => e = .returned (.int .i64 (firstB fr (rowsOf ds))) ∧ Below w.heap.size w w' := by
  obtain ⟨n, hn⟩ : ∃ n, n = ds.length := ⟨_, rfl⟩
  obtain ⟨ls, hls⟩ : ∃ ls, ls = rowsOf ds := ⟨_, rfl⟩
  obtain ⟨N, hN⟩ : ∃ k, Hid (k = longest ls) := ⟨_, rfl⟩
  have hNb : N ≤ 4096 := by rw [hN.out, hls]; exact longest_bound hb
  have ce : ∀ W, w = W → Calls Try.prog 33 #[.slice a n c] W fun e w' => e = .returned (.slice (some ⟨w.heap.size, 0, none⟩) N N) ∧ RowT w' w.heap.size N (eithN N ls [] 0) ∧ Below w.heap.size w w' := by
    rintro W rfl; rw [hn, hN.out, hls]; exact either_any a c ds w hL hb
  rw [← hn, ← hls]
  clear hL hn hb hls
  go_enter Try.func26, Try.ntmps26
  go_wp2_with (go_at_call 33; refine (ce _ rfl).mono ?_; rintro e w1 ⟨rfl, hr, hb⟩; have HR : Hid (RowT w1 w.heap.size N (eithN N ls [] 0)) := hr; clear ce hr)
  go_loopw [11] (fun v wr => ∃ j : Nat, j ≤ N ∧ v = .int .i64 j ∧ (∀ i : Nat, fr ≤ i → i < j → howB ls i ≠ 0) ∧ w1 = wr) (fun v _ => N - (intOf v).toNat)
  case atStart => exact ⟨0, by omega, rfl, fun i _ hi => by omega, by trivial⟩
  case round =>
    obtain ⟨j, hj, rfl, hno, rfl⟩ := hrel
    have HNO : Hid (∀ i : Nat, fr ≤ i → i < j → howB ls i ≠ 0) := hno
    clear hno
    by_cases hlt : j < N
    · have hlt' : (j : Int) < N := by omega
      obtain ⟨q, hq⟩ : ∃ q, Hid (anyB ls j = q) := ⟨_, rfl⟩
      obtain ⟨hc, -⟩ := HR.out.cell (eithN_all N ls hlt)
      rw [hq.out] at hc
      by_cases hf : fr ≤ j
      · cases q with
        | false =>
          have he : Hid ((j : Int) = firstB fr ls) := (firstB_is hf (by rw [← hN.out]; exact hlt) (anyB_how.1 hq.out) HNO.out).symm
          go_wp2
          go_ret
          exact ⟨ret_int he.out, hb⟩
        | true =>
          have hnx : Hid (∀ i : Nat, fr ≤ i → i < j + 1 → howB ls i ≠ 0) := by
            intro i h1 h2
            by_cases e : i = j
            · rw [e]; intro hh; rw [anyB_how.2 hh] at hq; cases hq.out
            · exact HNO.out i h1 (by omega)
          go_wp2
          go_roundw
          case rel => exact ⟨j + 1, by omega, by go_num, hnx.out, by trivial⟩
          case measure => simp [intOf]; omega
      · have hnx : Hid (∀ i : Nat, fr ≤ i → i < j + 1 → howB ls i ≠ 0) := by
          intro i h1 h2
          by_cases e : i = j
          · rw [e] at h1; exact absurd h1 hf
          · exact HNO.out i h1 (by omega)
        go_wp2
        go_roundw
        case rel => exact ⟨j + 1, by omega, by go_num, hnx.out, by trivial⟩
        case measure => simp [intOf]; omega
    · obtain rfl : j = N := by omega
      have he : Hid ((-1 : Int) = firstB fr ls) := (firstB_none fun i h1 h2 => HNO.out i h1 (by rw [hN.out]; exact h2)).symm
      go_wp2
      go_ret
      exact ⟨ret_int he.out, hb⟩

end Go.Proofs.Ytomjajmjooaegaa

/-
  The document's own Longest, How, Count and First.
-/
import Derived.Test.YtkfapldicjmelaaBitsFind
namespace Go.Proofs.Ytkfapldicjmelaa
open Go.RowKit Plain
set_option linter.unusedVariables false

set_option maxHeartbeats 1000000 in
theorem refLongest_any (a : Option Addr) (c : Nat) (ds : List (Option Addr × Nat × List Bool)) (w : World) (hL : IsL w a c ds) :
    Calls Try.prog 29 #[.slice a ds.length c] w fun e w' => e = .returned (.int .i64 (longest (rowsOf ds))) ∧ w = w' := by
  obtain ⟨n, hn⟩ : ∃ n, n = ds.length := ⟨_, rfl⟩
  have hnb : n ≤ 9223372036854775807 := by rw [hn]; exact Nat.le_trans hL.1 hL.2.1
  have HL : Hid (IsL w a c ds) := hL
  have HN : Hid (n = ds.length) := hn
  rw [← hn]
  clear hL hn
  go_enter Try.func29, Try.ntmps29
  go_wp2
  go_loopw [3, 8] (fun u v wr => ∃ j m : Nat, j ≤ n ∧ v = .int .i64 j ∧ m = longest (rowsOf (ds.take j)) ∧ u = .int .i64 m ∧ w = wr) (fun _ v _ => n - (intOf v).toNat)
  case atStart => exact ⟨0, 0, by omega, rfl, rfl, rfl, by trivial⟩
  case round =>
    obtain ⟨j, m, hj, rfl, hm, rfl, rfl⟩ := hrel
    have HM : Hid (m = longest (rowsOf (ds.take j))) := hm
    clear hm
    by_cases hlt : j < n
    · have hlt' : (j : Int) < n := by omega
      obtain ⟨d, hd⟩ : ∃ d, Hid (ds[j]? = some d) := ⟨_, List.getElem?_eq_getElem (by rw [← HN.out]; exact hlt)⟩
      obtain ⟨hdB, b, o, rfl, hbl, hc⟩ := HL.out.2.2 j d hd.out
      obtain ⟨k, hk⟩ : ∃ k, k = d.2.2.length := ⟨_, rfl⟩
      have hkb : k ≤ 9223372036854775807 := by rw [hk]; exact Nat.le_trans hdB.1 hdB.2.1
      rw [← hk] at hc
      have hnx : Hid (longest (rowsOf (ds.take (j + 1))) = max m k) := by
        show _ = _
        rw [take_rows hd.out, longest_append, ← HM.out, hk]
        simp [longest]
      generalize d.1 = da at hc hdB
      generalize d.2.1 = dc at hc hdB
      clear hdB hk hd
      by_cases hmk : m < k
      · have hmk' : (m : Int) < k := by omega
        go_wp2
        go_roundw
        case rel => exact ⟨j + 1, k, by omega, by go_num, by rw [hnx.out]; omega, rfl, by trivial⟩
        case measure => simp [intOf]; omega
      · have hmk' : ¬ (m : Int) < k := by omega
        go_wp2
        go_roundw
        case rel => exact ⟨j + 1, m, by omega, by go_num, by rw [hnx.out]; omega, rfl, by trivial⟩
        case measure => simp [intOf]; omega
    · obtain rfl : j = n := by omega
      have he : Hid ((m : Int) = ((longest (rowsOf ds) : Nat) : Int)) := by show _ = _; rw [HM.out, take_all HN.out]
      go_wp2
      go_ret
      exact ⟨ret_int he.out, rfl⟩

theorem howB_take {ds : List (Option Addr × Nat × List Bool)} {j i : Nat} {d : (Option Addr × Nat × List Bool)} (h : ds[j]? = some d) : howB (rowsOf (ds.take (j + 1))) i = howB (rowsOf (ds.take j)) i + bn (atB d.2.2 i) := by
  rw [take_rows h]
  unfold howB
  rw [List.countP_append]
  congr 1
  simp [bn, List.countP_cons]

theorem howB_le (ls : List (List Bool)) (i : Nat) : howB ls i ≤ ls.length := List.countP_le_length

set_option maxHeartbeats 1000000 in
theorem how_any (a : Option Addr) (c : Nat) (ds : List (Option Addr × Nat × List Bool)) (i : Nat) (w : World) (hL : IsL w a c ds) :
    Calls Try.prog 30 #[.slice a ds.length c, .int .i64 i] w fun e w' => e = .returned (.int .i64 (howB (rowsOf ds) i)) ∧ w = w' := by
  obtain ⟨n, hn⟩ : ∃ n, n = ds.length := ⟨_, rfl⟩
  have hnb : n ≤ 9223372036854775807 := by rw [hn]; exact Nat.le_trans hL.1 hL.2.1
  have HL : Hid (IsL w a c ds) := hL
  have HN : Hid (n = ds.length) := hn
  rw [← hn]
  clear hL hn
  go_enter Try.func30, Try.ntmps30
  go_wp2
  go_loopw [5, 10] (fun u v wr => ∃ j m : Nat, j ≤ n ∧ v = .int .i64 j ∧ m = howB (rowsOf (ds.take j)) i ∧ m ≤ j ∧ u = .int .i64 m ∧ w = wr) (fun _ v _ => n - (intOf v).toNat)
  case atStart => exact ⟨0, 0, by omega, rfl, rfl, Nat.le_refl _, rfl, by trivial⟩
  case round =>
    obtain ⟨j, m, hj, rfl, hm, hmj, rfl, rfl⟩ := hrel
    have HM : Hid (m = howB (rowsOf (ds.take j)) i) := hm
    clear hm
    by_cases hlt : j < n
    · have hlt' : (j : Int) < n := by omega
      obtain ⟨d, hd⟩ : ∃ d, Hid (ds[j]? = some d) := ⟨_, List.getElem?_eq_getElem (by rw [← HN.out]; exact hlt)⟩
      obtain ⟨hdB, b, o, rfl, hbl, hc⟩ := HL.out.2.2 j d hd.out
      obtain ⟨q, hq⟩ : ∃ q, Hid (atB d.2.2 i = q) := ⟨_, rfl⟩
      have hnx : Hid (howB (rowsOf (ds.take (j + 1))) i = m + bn q) := by show _ = _; rw [howB_take hd.out, ← HM.out, hq.out]
      have ca := at_any d.1 d.2.1 d.2.2 i w hdB
      rw [hq.out] at ca
      obtain ⟨k, hk⟩ : ∃ k, k = d.2.2.length := ⟨_, rfl⟩
      rw [← hk] at hc ca
      generalize d.1 = da at hc hdB ca
      generalize d.2.1 = dc at hc hdB ca
      clear hdB hk hd
      cases q with
      | true =>
        go_wp2_with (go_at_call 26; refine ca.mono ?_; rintro e w' ⟨rfl, rfl⟩)
        go_roundw
        case rel => exact ⟨j + 1, m + 1, by omega, by go_num, hnx.out.symm, by omega, by go_num, by trivial⟩
        case measure => simp [intOf]; omega
      | false =>
        go_wp2_with (go_at_call 26; refine ca.mono ?_; rintro e w' ⟨rfl, rfl⟩)
        go_roundw
        case rel => exact ⟨j + 1, m, by omega, by go_num, hnx.out.symm, by omega, rfl, by trivial⟩
        case measure => simp [intOf]; omega
    · obtain rfl : j = n := by omega
      have he : Hid ((m : Int) = ((howB (rowsOf ds) i : Nat) : Int)) := by show _ = _; rw [HM.out, take_all HN.out]
      go_wp2
      go_ret
      exact ⟨ret_int he.out, rfl⟩

set_option maxHeartbeats 1000000 in
theorem refCount_any (a : Option Addr) (c : Nat) (ds : List (Option Addr × Nat × List Bool)) (w : World) (hL : IsL w a c ds) :
    Calls Try.prog 17 #[.slice a ds.length c] w fun e w' => e = .returned (.int .i64 (countB (rowsOf ds))) ∧ w = w' := by
  obtain ⟨n, hn⟩ : ∃ n, n = ds.length := ⟨_, rfl⟩
  obtain ⟨k, hk⟩ : ∃ k, k = longest (rowsOf ds) := ⟨_, rfl⟩
  have hnb : n ≤ 9223372036854775807 := by rw [hn]; exact Nat.le_trans hL.1 hL.2.1
  have hkb : k ≤ 9223372036854775807 := by rw [hk]; exact longest_bound hL.rows_le
  have cs : ∀ W, w = W → Calls Try.prog 29 #[.slice a n c] W fun e w' => e = .returned (.int .i64 k) ∧ w = w' := by
    rintro W rfl; rw [hn, hk]; exact refLongest_any a c ds w hL
  have ca : ∀ (i : Nat) W, w = W → Calls Try.prog 30 #[.slice a n c, .int .i64 i] W fun e w' => e = .returned (.int .i64 (howB (rowsOf ds) i)) ∧ w = w' := by
    rintro i W rfl; rw [hn]; exact how_any a c ds i w hL
  have HK : Hid (k = longest (rowsOf ds)) := hk
  have HN : Hid (n = (rowsOf ds).length) := by show _ = _; rw [rowsOf_length]; exact hn
  rw [← hn]
  clear hL hn hk
  go_enter Try.func17, Try.ntmps17
  go_wp2
  go_loopw [3, 4] (fun u v wr => ∃ j m : Nat, j ≤ k ∧ v = .int .i64 j ∧ m = countN (rowsOf ds) j ∧ m ≤ j ∧ u = .int .i64 m ∧ w = wr) (fun _ v _ => k - (intOf v).toNat)
  case atStart => exact ⟨0, 0, by omega, rfl, rfl, Nat.le_refl _, rfl, by trivial⟩
  case round =>
    obtain ⟨j, m, hj, rfl, hm, hmj, rfl, rfl⟩ := hrel
    have HM : Hid (m = countN (rowsOf ds) j) := hm
    clear hm
    by_cases hlt : j < k
    · have hlt' : (j : Int) < k := by omega
      obtain ⟨h, hh⟩ : ∃ h, Hid (howB (rowsOf ds) j = h) := ⟨_, rfl⟩
      have ca' : ∀ W, w = W → Calls Try.prog 30 #[.slice a n c, .int .i64 j] W fun e w' => e = .returned (.int .i64 h) ∧ w = w' := by
        intro W hW; rw [← hh.out]; exact ca j W hW
      have hnx : Hid (countN (rowsOf ds) (j + 1) = m + bn (decide (h = n))) := by show _ = _; rw [countN_succ, ← HM.out, HN.out]; unfold allB; rw [hh.out]
      by_cases e : h = n
      · have e1 : ((h : Int) == (n : Int)) = true := by simp [e]
        rw [decide_eq_true e] at hnx
        clear e
        go_wp2_with (first
          | (go_at_call 29; refine (cs _ rfl).mono ?_; rintro e w' ⟨rfl, rfl⟩)
          | (go_at_call 30; refine (ca' _ rfl).mono ?_; rintro e w' ⟨rfl, rfl⟩))
        go_roundw
        case rel => exact ⟨j + 1, m + 1, by omega, by go_num, hnx.out.symm, by omega, by go_num, by trivial⟩
        case measure => simp [intOf]; omega
      · have e1 : ((h : Int) == (n : Int)) = false := by simp; omega
        rw [decide_eq_false e] at hnx
        clear e
        go_wp2_with (first
          | (go_at_call 29; refine (cs _ rfl).mono ?_; rintro e w' ⟨rfl, rfl⟩)
          | (go_at_call 30; refine (ca' _ rfl).mono ?_; rintro e w' ⟨rfl, rfl⟩))
        go_roundw
        case rel => exact ⟨j + 1, m, by omega, by go_num, hnx.out.symm, by omega, rfl, by trivial⟩
        case measure => simp [intOf]; omega
    · obtain rfl : j = k := by omega
      have he : Hid ((m : Int) = ((countB (rowsOf ds) : Nat) : Int)) := by show _ = _; rw [HM.out, HK.out]; rfl
      go_wp2_with (go_at_call 29; refine (cs _ rfl).mono ?_; rintro e w' ⟨rfl, rfl⟩)
      go_ret
      exact ⟨ret_int he.out, rfl⟩

set_option maxHeartbeats 1000000 in
theorem refFirst_any (fr : Int) (a : Option Addr) (c : Nat) (ds : List (Option Addr × Nat × List Bool)) (w : World) (hL : IsL w a c ds) :
    Calls Try.prog 19 #[.int .i64 fr, .slice a ds.length c] w fun e w' => e = .returned (.int .i64 (firstB fr (rowsOf ds))) ∧ w = w' := by
  obtain ⟨n, hn⟩ : ∃ n, n = ds.length := ⟨_, rfl⟩
  obtain ⟨k, hk⟩ : ∃ k, k = longest (rowsOf ds) := ⟨_, rfl⟩
  have hkb : k ≤ 9223372036854775807 := by rw [hk]; exact longest_bound hL.rows_le
  have cs : ∀ W, w = W → Calls Try.prog 29 #[.slice a n c] W fun e w' => e = .returned (.int .i64 k) ∧ w = w' := by
    rintro W rfl; rw [hn, hk]; exact refLongest_any a c ds w hL
  have ca : ∀ (i : Nat) W, w = W → Calls Try.prog 30 #[.slice a n c, .int .i64 i] W fun e w' => e = .returned (.int .i64 (howB (rowsOf ds) i)) ∧ w = w' := by
    rintro i W rfl; rw [hn]; exact how_any a c ds i w hL
  rw [← hn]
  obtain ⟨ls, hls⟩ : ∃ ls, ls = rowsOf ds := ⟨_, rfl⟩
  rw [← hls] at hk ca ⊢
  have HK : Hid (k = longest ls) := hk
  clear hL hn hk hls
  go_enter Try.func19, Try.ntmps19
  go_wp2
  go_loopw [5] (fun v wr => ∃ j : Nat, j ≤ k ∧ v = .int .i64 j ∧ (∀ i : Nat, fr ≤ i → i < j → howB ls i ≠ 0) ∧ w = wr) (fun v _ => k - (intOf v).toNat)
  case atStart => exact ⟨0, by omega, rfl, fun i _ hi => by omega, by trivial⟩
  case round =>
    obtain ⟨j, hj, rfl, hno, rfl⟩ := hrel
    have HNO : Hid (∀ i : Nat, fr ≤ i → i < j → howB ls i ≠ 0) := hno
    clear hno
    by_cases hlt : j < k
    · have hlt' : (j : Int) < k := by omega
      obtain ⟨h, hh⟩ : ∃ h, Hid (howB ls j = h) := ⟨_, rfl⟩
      have ca' : ∀ W, w = W → Calls Try.prog 30 #[.slice a n c, .int .i64 j] W fun e w' => e = .returned (.int .i64 h) ∧ w = w' := by
        intro W hW; rw [← hh.out]; exact ca j W hW
      by_cases hf : fr ≤ j
      · by_cases e : h = 0
        · have he : Hid ((j : Int) = firstB fr ls) := (firstB_is hf (by rw [← HK.out]; exact hlt) (hh.out.trans e) HNO.out).symm
          subst e
          go_wp2_with (first
            | (go_at_call 29; refine (cs _ rfl).mono ?_; rintro e w' ⟨rfl, rfl⟩)
            | (go_at_call 30; refine (ca' _ rfl).mono ?_; rintro e w' ⟨rfl, rfl⟩))
          go_ret
          exact ⟨ret_int he.out, rfl⟩
        · have hnx : Hid (∀ i : Nat, fr ≤ i → i < j + 1 → howB ls i ≠ 0) := by
            intro i h1 h2
            by_cases ei : i = j
            · rw [ei, hh.out]; exact e
            · exact HNO.out i h1 (by omega)
          have e1 : ((h : Int) == 0) = false := by simp; omega
          clear e
          go_wp2_with (first
            | (go_at_call 29; refine (cs _ rfl).mono ?_; rintro e w' ⟨rfl, rfl⟩)
            | (go_at_call 30; refine (ca' _ rfl).mono ?_; rintro e w' ⟨rfl, rfl⟩))
          go_roundw
          case rel => exact ⟨j + 1, by omega, by go_num, hnx.out, by trivial⟩
          case measure => simp [intOf]; omega
      · have hnx : Hid (∀ i : Nat, fr ≤ i → i < j + 1 → howB ls i ≠ 0) := by
          intro i h1 h2
          by_cases e : i = j
          · rw [e] at h1; exact absurd h1 hf
          · exact HNO.out i h1 (by omega)
        go_wp2_with (go_at_call 29; refine (cs _ rfl).mono ?_; rintro e w' ⟨rfl, rfl⟩)
        go_roundw
        case rel => exact ⟨j + 1, by omega, by go_num, hnx.out, by trivial⟩
        case measure => simp [intOf]; omega
    · obtain rfl : j = k := by omega
      have he : Hid ((-1 : Int) = firstB fr ls) := (firstB_none fun i h1 h2 => HNO.out i h1 (by rw [HK.out]; exact h2)).symm
      go_wp2_with (go_at_call 29; refine (cs _ rfl).mono ?_; rintro e w' ⟨rfl, rfl⟩)
      go_ret
      exact ⟨ret_int he.out, rfl⟩

end Go.Proofs.Ytkfapldicjmelaa

/-
  Package super's Choose, the document's own, and the statements' own alive.
-/
import Derived.Test.YtpjbikofomhcdaaSuperGet
import Derived.Test.YtpjbikofomhcdaaSuperRef
namespace Go.Proofs.Ytpjbikofomhcdaa
open Go.RowKit Plain
set_option linter.unusedVariables false

theorem best_any (xs : List ByteArray) : ∃ t i, Best xs t i := by
  induction xs with
  | nil => exact ⟨_, _, best_nil⟩
  | cons x xs ih => obtain ⟨t, i, h⟩ := ih; exact ⟨_, _, h.cons⟩

def chE (t : ByteArray) : Int := if suG t = 0 then 120 else 0

theorem Best.next {xs : List ByteArray} {j : Nat} {x t : ByteArray} {i : Nat} (hx : xs[j]? = some x) (h : Best (xs.take j) t i) :
    (suG t < suG x → Best (xs.take (j + 1)) x j) ∧ (¬ suG t < suG x → Best (xs.take (j + 1)) t i) := by
  have hl : (xs.take j).length = j := by
    rw [List.length_take]
    have := (List.getElem?_eq_some_iff.1 hx).1
    omega
  have e : xs.take (j + 1) = xs.take j ++ [x] := by rw [List.take_add_one, hx]; rfl
  have := h.snoc (x := x)
  rw [← e, hl] at this
  refine ⟨fun hlt => ?_, fun hlt => ?_⟩
  · rwa [if_pos hlt, if_pos hlt] at this
  · rwa [if_neg hlt, if_neg hlt] at this

theorem Best.back {xs : List ByteArray} {j : Nat} {x t : ByteArray} {i : Nat} (hx : xs[j]? = some x) (h : Best (xs.drop (j + 1)) t i) :
    (suE x = 0 → suG t ≤ suG x → Best (xs.drop j) x 0) ∧ (¬ (suE x = 0 ∧ suG t ≤ suG x) → Best (xs.drop j) t (if suG t = 0 then 0 else i + 1)) := by
  have hj := (List.getElem?_eq_some_iff.1 hx).1
  have e : xs.drop j = x :: xs.drop (j + 1) := by
    rw [List.drop_eq_getElem_cons hj, (List.getElem?_eq_some_iff.1 hx).2]
  have := h.cons (x := x)
  rw [← e] at this
  refine ⟨fun h0 hle => ?_, fun hn => ?_⟩
  · rwa [if_pos ⟨h0, hle⟩, if_pos ⟨h0, hle⟩] at this
  · rwa [if_neg hn, if_neg hn] at this

set_option maxHeartbeats 2000000 in
theorem choose_any (a : Option Addr) (c : Nat) (xs : List ByteArray) (n : Nat) (t : ByteArray) (i : Nat) (w : World) (hn : n = xs.length) (hS : IsS w a c xs) (hbest : Best xs t i) :
    Calls Try.prog 14 #[.slice a n c] w fun e w' => e = .returned (.tuple #[.agg #[.int .i64 (suG t), .int .i64 (suR t), .int .i64 (suM t), .int .i64 (suZ t)], .int .i64 i, .int .i64 (chE t)]) ∧ Below w.heap.size w w' := by
  have hnl : n ≤ 9223372036854775807 := by rw [hn]; exact hS.size
  have HN : Hid (n = xs.length) := hn
  have HS : Hid (IsS w a c xs) := hS
  have HB : Hid (Best xs t i) := hbest
  clear hn hS hbest
  have c1 : ∀ x : ByteArray, x.size ≤ maxLen → ∀ W, Calls Try.prog 12 #[.string x] W fun e w' => e = .returned (.tuple #[.agg #[.int .i64 (suG x), .int .i64 (suR x), .int .i64 (suM x), .int .i64 (suZ x)], .int .i64 (suE x)]) ∧ Below W.heap.size W w' := fun x hx W => suGet_any x W hx
  go_enter Try.func14, Try.ntmps14
  go_wp2
  go_loopw [6, 13] (fun p v wr => ∃ (j : Nat) (t' : ByteArray) (i' : Nat), j ≤ n ∧ v = .int .i64 j ∧ p = .int .i64 i' ∧ Best (xs.take j) t' i' ∧ Box4 wr w.heap.size (.int .i64 0) (.int .i64 0) (.int .i64 0) (.int .i64 0) ∧ Box4 wr (w.heap.size + 1) (.int .i64 (suG t')) (.int .i64 (suR t')) (.int .i64 (suM t')) (.int .i64 (suZ t')) ∧ Below w.heap.size w wr) (fun _ v _ => n - (intOf v).toNat)
  case atStart =>
    obtain ⟨s0, s1, s2, s3⟩ := su_none
    refine ⟨0, ⟨#[]⟩, 0, by omega, rfl, rfl, best_nil, (box4_new _ _ _ _ _ _ rfl).alloc _, ?_, ((Below.refl _ _).alloc (Nat.le_refl _) _).alloc (by simp) _⟩
    rw [s0, s1, s2, s3]
    exact box4_new _ _ _ _ _ _ (by simp)
  case round =>
    obtain ⟨j, t', i', hj, rfl, rfl, hbj, R, N, hB⟩ := hrel
    replace hbj : Hid (Best (xs.take j) t' i') := hbj
    by_cases hlt : j < n
    · obtain ⟨x, hx⟩ : ∃ x, xs[j]? = some x := ⟨_, List.getElem?_eq_getElem (by rw [← HN.out]; exact hlt)⟩
      obtain ⟨bk, o, rfl, hbk, hcell0, hxs⟩ := HS.out.2.2 j x hx
      have hcell := cell_below hB hcell0
      have c2 := c1 x hxs
      have hnx : Hid ((suG t' < suG x → Best (xs.take (j + 1)) x j) ∧ (¬ suG t' < suG x → Best (xs.take (j + 1)) t' i')) := Best.next hx hbj.out
      have hpos : Hid (¬ suE x = 0 → ¬ suG t' < suG x) := by
        show _ → _
        intro h0
        have := (suG_pos (s := t')).1
        rw [show suG x = 0 by rw [suG, if_neg h0]]
        omega
      have hlt' : (j : Int) < n := by omega
      clear hx hcell0 hbk hxs hbj
      by_cases h0 : suE x = 0
      · rw [h0] at c2
        by_cases hg : suG t' < suG x
        · have hnew : Hid (Best (xs.take (j + 1)) x j) := hnx.out.1 hg
          clear hnx hpos
          go_wp2_with (go_at_call 12; refine (c2 _).mono ?_; rintro e w2 ⟨rfl, hb⟩; replace R := (R.below hb).alloc (.cells #[.int .i64 (suG x), .int .i64 (suR x), .int .i64 (suM x), .int .i64 (suZ x)] 23); replace N := (N.below hb).alloc (.cells #[.int .i64 (suG x), .int .i64 (suR x), .int .i64 (suM x), .int .i64 (suZ x)] 23); have T := box4_new w2 (.int .i64 (suG x)) (.int .i64 (suR x)) (.int .i64 (suM x)) (.int .i64 (suZ x)) 23 rfl; replace hB := Below.tr hB hb; replace hB := hB.alloc hB.size (.cells #[.int .i64 (suG x), .int .i64 (suR x), .int .i64 (suM x), .int .i64 (suZ x)] 23); obtain ⟨⟨t0, t1, t2, t3⟩, -⟩ := id T; obtain ⟨⟨n0, n1, n2, n3⟩, f0, f1, f2, f3⟩ := id N; clear hb)
          go_roundw
          case rel => exact ⟨j + 1, x, j, by omega, by go_num, rfl, hnew.out, R.otherS (by omega) _ _ _ _, N.puts _ _ _ _, below_set4 hB (by omega)⟩
          case measure => simp [intOf]; omega
        · have hnew : Hid (Best (xs.take (j + 1)) t' i') := hnx.out.2 hg
          clear hnx hpos
          go_wp2_with (go_at_call 12; refine (c2 _).mono ?_; rintro e w2 ⟨rfl, hb⟩; replace R := (R.below hb).alloc (.cells #[.int .i64 (suG x), .int .i64 (suR x), .int .i64 (suM x), .int .i64 (suZ x)] 23); replace N := (N.below hb).alloc (.cells #[.int .i64 (suG x), .int .i64 (suR x), .int .i64 (suM x), .int .i64 (suZ x)] 23); have T := box4_new w2 (.int .i64 (suG x)) (.int .i64 (suR x)) (.int .i64 (suM x)) (.int .i64 (suZ x)) 23 rfl; replace hB := Below.tr hB hb; replace hB := hB.alloc hB.size (.cells #[.int .i64 (suG x), .int .i64 (suR x), .int .i64 (suM x), .int .i64 (suZ x)] 23); obtain ⟨⟨t0, t1, t2, t3⟩, -⟩ := id T; obtain ⟨⟨n0, n1, n2, n3⟩, f0, f1, f2, f3⟩ := id N; clear hb)
          go_roundw
          case rel => exact ⟨j + 1, t', i', by omega, by go_num, rfl, hnew.out, R, N, hB⟩
          case measure => simp [intOf]; omega
      · have hnew : Hid (Best (xs.take (j + 1)) t' i') := hnx.out.2 (hpos.out h0)
        clear hnx hpos
        have h0' : (suE x == 0) = false := by simpa using h0
        go_wp2_with (go_at_call 12; refine (c2 _).mono ?_; rintro e w2 ⟨rfl, hb⟩; replace R := (R.below hb).alloc (.cells #[.int .i64 (suG x), .int .i64 (suR x), .int .i64 (suM x), .int .i64 (suZ x)] 23); replace N := (N.below hb).alloc (.cells #[.int .i64 (suG x), .int .i64 (suR x), .int .i64 (suM x), .int .i64 (suZ x)] 23); replace hB := Below.tr hB hb; replace hB := hB.alloc hB.size (.cells #[.int .i64 (suG x), .int .i64 (suR x), .int .i64 (suM x), .int .i64 (suZ x)] 23); clear hb)
        go_roundw
        case rel => exact ⟨j + 1, t', i', by omega, by go_num, rfl, hnew.out, R, N, hB⟩
        case measure => simp [intOf]; omega
    · obtain rfl : n = j := by omega
      obtain ⟨ht, hi⟩ : t' = t ∧ i' = i := by
        have := hbj.out
        rw [HN.out, List.take_length] at this
        exact this.uniq HB.out
      subst ht hi
      obtain ⟨⟨n0, n1, n2, n3⟩, -⟩ := id N
      obtain ⟨⟨r0, r1, r2, r3⟩, f0, f1, f2, f3⟩ := id R
      have hn0 : ¬ (n : Int) < n := by omega
      by_cases h0 : suG t' = 0
      · obtain ⟨ht, hi⟩ := HB.out.2.1 h0
        have z : Hid (suR t' = 0 ∧ suM t' = 0 ∧ suZ t' = 0 ∧ chE t' = 120 ∧ (i' : Int) = 0) := by
          obtain ⟨s0, s1, s2, s3⟩ := su_none
          rw [chE, if_pos h0, hi]
          exact ⟨by rw [ht]; exact s1, by rw [ht]; exact s2, by rw [ht]; exact s3, rfl, rfl⟩
        clear ht hi hbj hj hlt
        rw [h0] at n0
        go_wp2
        obtain ⟨e1, e2, e3, e4, e5⟩ := z.out
        rw [e1, e2, e3, e4, e5]
        obtain ⟨⟨z0, z1, z2, z3⟩, -⟩ := R.puts (.int .i64 0) (.int .i64 0) (.int .i64 0) (.int .i64 0)
        exact bodyPost_ret (v := .tuple #[.agg #[.int .i64 0, .int .i64 0, .int .i64 0, .int .i64 0], .int .i64 0, .int .i64 120]) (by simp [results, Try.results14, go_sem, z0, z1, z2, z3]) rfl ⟨rfl, below_set4 hB (Nat.le_refl _)⟩
      · have h0' : (suG t' == 0) = false := by simpa using h0
        have z : Hid (chE t' = 0) := by show _ = _; rw [chE, if_neg h0]
        clear hbj hj hlt
        go_wp2
        rw [z.out]
        obtain ⟨⟨z0, z1, z2, z3⟩, -⟩ := R.puts (.int .i64 (suG t')) (.int .i64 (suR t')) (.int .i64 (suM t')) (.int .i64 (suZ t'))
        exact bodyPost_ret (v := .tuple #[.agg #[.int .i64 (suG t'), .int .i64 (suR t'), .int .i64 (suM t'), .int .i64 (suZ t')], .int .i64 i', .int .i64 0]) (by simp [results, Try.results14, go_sem, z0, z1, z2, z3]) rfl ⟨rfl, below_set4 hB (Nat.le_refl _)⟩

theorem wrap_less (n : Nat) (h : n ≤ 9223372036854775807) : IntKind.i64.wrap ((n : Int) - 1) = (n : Int) - 1 := by
  cases n with
  | zero => decide
  | succ n => rw [show ((n + 1 : Nat) : Int) - 1 = n by omega]; exact i64_in _ (by omega) (by omega)

def atC (t : ByteArray) (i k : Nat) : Int := if suG t = 0 then -1 else (k : Int) + (i : Int)

set_option maxHeartbeats 2000000 in
theorem refChoose_any (a : Option Addr) (c : Nat) (xs : List ByteArray) (n : Nat) (t : ByteArray) (i : Nat) (w : World) (hn : n = xs.length) (hS : IsS w a c xs) (hbest : Best xs t i) :
    Calls Try.prog 15 #[.slice a n c] w fun e w' => e = .returned (.tuple #[.agg #[.int .i64 (suG t), .int .i64 (suR t), .int .i64 (suM t), .int .i64 (suZ t)], .int .i64 i, .int .i64 (chE t)]) ∧ Below w.heap.size w w' := by
  have hnl : n ≤ 9223372036854775807 := by rw [hn]; exact hS.size
  have HN : Hid (n = xs.length) := hn
  have HS : Hid (IsS w a c xs) := hS
  have HB : Hid (Best xs t i) := hbest
  clear hn hS hbest
  have c1 : ∀ x : ByteArray, x.size ≤ maxLen → ∀ W, Calls Try.prog 13 #[.string x] W fun e w' => e = .returned (.tuple #[.agg #[.int .i64 (suG x), .int .i64 (suR x), .int .i64 (suM x), .int .i64 (suZ x)], .int .i64 (suE x)]) ∧ Below W.heap.size W w' := fun x hx W => refSuGet_any x W hx
  have hsub : IntKind.i64.wrap ((n : Int) - 1) = (n : Int) - 1 := wrap_less _ (by omega)
  go_enter Try.func15, Try.ntmps15
  go_wp2
  go_loopw [5, 7] (fun p v wr => ∃ (k : Nat) (z : Int) (t' : ByteArray) (i' : Nat), k ≤ n ∧ v = .int .i64 ((k : Int) - 1) ∧ p = .int .i64 z ∧ z = atC t' i' k ∧ Best (xs.drop k) t' i' ∧ Box4 wr w.heap.size (.int .i64 0) (.int .i64 0) (.int .i64 0) (.int .i64 0) ∧ Box4 wr (w.heap.size + 1) (.int .i64 (suG t')) (.int .i64 (suR t')) (.int .i64 (suM t')) (.int .i64 (suZ t')) ∧ Below w.heap.size w wr) (fun _ v _ => (intOf v + 1).toNat)
  case atStart =>
    obtain ⟨s0, s1, s2, s3⟩ := su_none
    refine ⟨n, -1, ⟨#[]⟩, 0, by omega, rfl, rfl, by rw [atC, if_pos s0], by rw [HN.out, List.drop_length]; exact best_nil, (box4_new _ _ _ _ _ _ rfl).alloc _, ?_, ((Below.refl _ _).alloc (Nat.le_refl _) _).alloc (by simp) _⟩
    rw [s0, s1, s2, s3]
    exact box4_new _ _ _ _ _ _ (by simp)
  case round =>
    obtain ⟨k, z, t', i', hk, rfl, rfl, hz, hbj, R, N, hB⟩ := hrel
    replace hbj : Hid (Best (xs.drop k) t' i') := hbj
    replace hz : Hid (z = atC t' i' k) := hz
    cases k with
    | succ j =>
      have ej : ((j + 1 : Nat) : Int) - 1 = (j : Int) := by omega
      rw [ej]
      obtain ⟨x, hx⟩ : ∃ x, xs[j]? = some x := ⟨_, List.getElem?_eq_getElem (by rw [← HN.out]; omega)⟩
      obtain ⟨bk, o, rfl, hbk, hcell0, hxs⟩ := HS.out.2.2 j x hx
      have hcell := cell_below hB hcell0
      have c2 := c1 x hxs
      have hnx : Hid ((suE x = 0 → suG t' ≤ suG x → Best (xs.drop j) x 0) ∧ (¬ (suE x = 0 ∧ suG t' ≤ suG x) → Best (xs.drop j) t' (if suG t' = 0 then 0 else i' + 1))) := Best.back hx hbj.out
      have hsame : Hid (z = atC t' (if suG t' = 0 then 0 else i' + 1) j) := by
        show _ = _
        rw [hz.out, atC, atC]
        by_cases h : suG t' = 0
        · rw [if_pos h, if_pos h]
        · rw [if_neg h, if_neg h, if_neg h]; omega
      have hj0 : ¬ (j : Int) < 0 := by omega
      have hjn : j < n := by omega
      have hsb : IntKind.i64.wrap ((j : Int) - 1) = (j : Int) - 1 := wrap_less _ (by omega)
      clear hx hcell0 hbk hxs hbj ej hz
      by_cases h0 : suE x = 0
      · have h1 := (suG_pos (s := x)).2.1 h0
        rw [h0] at c2
        by_cases hg : suG t' ≤ suG x
        · have hnew : Hid (Best (xs.drop j) x 0) := hnx.out.1 h0 hg
          have hat : Hid ((j : Int) = atC x 0 j) := by show _ = _; rw [atC, if_neg (by omega)]; omega
          clear hnx h1 hsame
          go_wp2_with (go_at_call 13; refine (c2 _).mono ?_; rintro e w2 ⟨rfl, hb⟩; replace R := (R.below hb).alloc (.cells #[.int .i64 (suG x), .int .i64 (suR x), .int .i64 (suM x), .int .i64 (suZ x)] 23); replace N := (N.below hb).alloc (.cells #[.int .i64 (suG x), .int .i64 (suR x), .int .i64 (suM x), .int .i64 (suZ x)] 23); have T := box4_new w2 (.int .i64 (suG x)) (.int .i64 (suR x)) (.int .i64 (suM x)) (.int .i64 (suZ x)) 23 rfl; replace hB := Below.tr hB hb; replace hB := hB.alloc hB.size (.cells #[.int .i64 (suG x), .int .i64 (suR x), .int .i64 (suM x), .int .i64 (suZ x)] 23); obtain ⟨⟨t0, t1, t2, t3⟩, -⟩ := id T; obtain ⟨⟨n0, n1, n2, n3⟩, f0, f1, f2, f3⟩ := id N; clear hb)
          go_roundw
          case rel => exact ⟨j, j, x, 0, by omega, rfl, rfl, hat.out, hnew.out, R.otherS (by omega) _ _ _ _, N.puts _ _ _ _, below_set4 hB (by omega)⟩
          case measure => simp [intOf]
        · have hnew : Hid (Best (xs.drop j) t' (if suG t' = 0 then 0 else i' + 1)) := hnx.out.2 (fun h => hg h.2)
          clear hnx h1
          go_wp2_with (go_at_call 13; refine (c2 _).mono ?_; rintro e w2 ⟨rfl, hb⟩; replace R := (R.below hb).alloc (.cells #[.int .i64 (suG x), .int .i64 (suR x), .int .i64 (suM x), .int .i64 (suZ x)] 23); replace N := (N.below hb).alloc (.cells #[.int .i64 (suG x), .int .i64 (suR x), .int .i64 (suM x), .int .i64 (suZ x)] 23); have T := box4_new w2 (.int .i64 (suG x)) (.int .i64 (suR x)) (.int .i64 (suM x)) (.int .i64 (suZ x)) 23 rfl; replace hB := Below.tr hB hb; replace hB := hB.alloc hB.size (.cells #[.int .i64 (suG x), .int .i64 (suR x), .int .i64 (suM x), .int .i64 (suZ x)] 23); obtain ⟨⟨t0, t1, t2, t3⟩, -⟩ := id T; obtain ⟨⟨n0, n1, n2, n3⟩, f0, f1, f2, f3⟩ := id N; clear hb)
          go_roundw
          case rel => exact ⟨j, z, t', _, by omega, rfl, rfl, hsame.out, hnew.out, R, N, hB⟩
          case measure => simp [intOf]
      · have hnew : Hid (Best (xs.drop j) t' (if suG t' = 0 then 0 else i' + 1)) := hnx.out.2 (fun h => h0 h.1)
        clear hnx
        have h0' : (suE x == 0) = false := by simpa using h0
        go_wp2_with (go_at_call 13; refine (c2 _).mono ?_; rintro e w2 ⟨rfl, hb⟩; replace R := (R.below hb).alloc (.cells #[.int .i64 (suG x), .int .i64 (suR x), .int .i64 (suM x), .int .i64 (suZ x)] 23); replace N := (N.below hb).alloc (.cells #[.int .i64 (suG x), .int .i64 (suR x), .int .i64 (suM x), .int .i64 (suZ x)] 23); have T := box4_new w2 (.int .i64 (suG x)) (.int .i64 (suR x)) (.int .i64 (suM x)) (.int .i64 (suZ x)) 23 rfl; replace hB := Below.tr hB hb; replace hB := hB.alloc hB.size (.cells #[.int .i64 (suG x), .int .i64 (suR x), .int .i64 (suM x), .int .i64 (suZ x)] 23); obtain ⟨⟨t0, t1, t2, t3⟩, -⟩ := id T; obtain ⟨⟨n0, n1, n2, n3⟩, f0, f1, f2, f3⟩ := id N; clear hb)
        go_roundw
        case rel => exact ⟨j, z, t', _, by omega, rfl, rfl, hsame.out, hnew.out, R, N, hB⟩
        case measure => simp [intOf]
    | zero =>
      have ej : ((0 : Nat) : Int) - 1 = -1 := by omega
      rw [ej]
      clear ej
      obtain ⟨ht, hi⟩ : t' = t ∧ i' = i := by
        have := hbj.out
        rw [List.drop_zero] at this
        exact this.uniq HB.out
      subst ht hi
      obtain ⟨⟨n0, n1, n2, n3⟩, -⟩ := id N
      obtain ⟨⟨r0, r1, r2, r3⟩, f0, f1, f2, f3⟩ := id R
      by_cases h0 : suG t' = 0
      · obtain ⟨ht, hi⟩ := HB.out.2.1 h0
        have zz : Hid (suR t' = 0 ∧ suM t' = 0 ∧ suZ t' = 0 ∧ chE t' = 120 ∧ (i' : Int) = 0) := by
          obtain ⟨s0, s1, s2, s3⟩ := su_none
          rw [chE, if_pos h0, hi]
          exact ⟨by rw [ht]; exact s1, by rw [ht]; exact s2, by rw [ht]; exact s3, rfl, rfl⟩
        obtain rfl : z = -1 := by rw [hz.out, atC, if_pos h0]
        clear ht hi hbj hk hz
        rw [h0] at n0
        go_wp2
        obtain ⟨e1, e2, e3, e4, e5⟩ := zz.out
        rw [h0, e1, e2, e3, e4, e5]
        obtain ⟨⟨z0, z1, z2, z3⟩, -⟩ := R.puts (.int .i64 0) (.int .i64 0) (.int .i64 0) (.int .i64 0)
        exact bodyPost_ret (v := .tuple #[.agg #[.int .i64 0, .int .i64 0, .int .i64 0, .int .i64 0], .int .i64 0, .int .i64 120]) (by simp [results, Try.results15, go_sem, z0, z1, z2, z3]) rfl ⟨rfl, below_set4 hB (Nat.le_refl _)⟩
      · have h0' : (suG t' == 0) = false := by simpa using h0
        have zz : Hid (chE t' = 0) := by show _ = _; rw [chE, if_neg h0]
        obtain rfl : z = (i' : Int) := by rw [hz.out, atC, if_neg h0]; omega
        clear hbj hk hz
        go_wp2
        rw [zz.out]
        obtain ⟨⟨z0, z1, z2, z3⟩, -⟩ := R.puts (.int .i64 (suG t')) (.int .i64 (suR t')) (.int .i64 (suM t')) (.int .i64 (suZ t'))
        exact bodyPost_ret (v := .tuple #[.agg #[.int .i64 (suG t'), .int .i64 (suR t'), .int .i64 (suM t'), .int .i64 (suZ t')], .int .i64 i', .int .i64 0]) (by simp [results, Try.results15, go_sem, z0, z1, z2, z3]) rfl ⟨rfl, below_set4 hB (Nat.le_refl _)⟩

theorem isS_one (W : World) (x : ByteArray) (hx : x.size ≤ maxLen) : IsS (W.alloc (.cells #[.string x] 9)) (some ⟨W.heap.size, 0, none⟩) 1 [x] := by
  refine ⟨Nat.le_refl _, by unfold maxLen; omega, fun j d hd => ?_⟩
  match j, hd with
  | 0, hd =>
    simp at hd
    subst hd
    exact ⟨W.heap.size, 0, rfl, by simp, World.cell?_alloc_at _ _ _ _ rfl, hx⟩

theorem best_none : Best [⟨#[]⟩] ⟨#[]⟩ 0 := by
  obtain ⟨s0, s1, s2, s3⟩ := su_none
  have := best_nil.snoc (x := ⟨#[]⟩)
  rw [if_neg (by omega), if_neg (by omega)] at this
  exact this

/-- A superblock may be, and no bytes are none. -/
theorem alive12_any (w : World) :
    Calls Try.prog 9 #[] w fun e w' => e = .returned (.bool true) ∧ Below w.heap.size w w' := by
  have c1 : ∀ W : World, Calls Try.prog 14 #[.slice (some ⟨W.heap.size, 0, none⟩) 1 1] (W.alloc (.cells #[.string ⟨#[]⟩] 9)) fun e w' => e = .returned (.tuple #[.agg #[.int .i64 0, .int .i64 0, .int .i64 0, .int .i64 0], .int .i64 0, .int .i64 120]) ∧ Below W.heap.size W w' := by
    intro W
    obtain ⟨s0, s1, s2, s3⟩ := su_none
    have := choose_any _ 1 [⟨#[]⟩] 1 ⟨#[]⟩ 0 _ rfl (isS_one W ⟨#[]⟩ (by decide)) best_none
    rw [s0, s1, s2, s3, chE, if_pos s0] at this
    exact this.mono fun e w' ⟨he, hb⟩ => ⟨he, below_box hb⟩
  have c2 := fun W => suRight_any 1 0 10 24 W
  rw [show rightSu 1 0 10 24 = true by decide] at c2
  go_enter Try.func9, Try.ntmps9
  go_wp2_with (first
    | (go_at_call 14; refine (c1 _).mono ?_; rintro e w1 ⟨rfl, hb⟩; have hB := hb.alloc hb.size (.cells #[.int .i64 0, .int .i64 0, .int .i64 0, .int .i64 0] 23); clear hb)
    | (go_at_call 10; refine (c2 _).mono ?_; rintro e w2 ⟨rfl, hb⟩; replace hB := Below.tr hB hb; clear hb))
  go_ret
  exact ⟨ret_bool (by simp), hB⟩

end Go.Proofs.Ytpjbikofomhcdaa

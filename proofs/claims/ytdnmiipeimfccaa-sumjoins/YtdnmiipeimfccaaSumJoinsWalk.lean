/-
  The walk of the law SumJoins: it returns true at all arguments.
-/
import Derived.Test.YtdnmiipeimfccaaSumIsWalk
namespace Go.Proofs.Ytdnmiipeimfccaa
open Go.RowKit Plain

theorem cat_three (a b c : ByteArray) : cat [a, b, c] = a ++ b ++ c := by
  apply bytes_ext
  rw [data_append, data_append]
  simp [cat]

theorem ofS_append (a b : ByteArray) : ofS (a ++ b) = onS (ofS a) b := by
  unfold ofS onS
  rw [data_append, sumOf_append]

theorem onS_append {n : Nat} (h : n < 4294967296) (a b : ByteArray) : onS n (a ++ b) = onS (onS n a) b := by
  unfold onS
  rw [data_append, sumOn_append h]

set_option maxHeartbeats 2000000 in
theorem sumJoins_walk (s t u : ByteArray) (w : World) (hs : s.size ≤ maxLen) (ht : t.size ≤ maxLen) (hu : u.size ≤ maxLen) :
    Calls Try.prog 4 #[.string s, .string t, .string u] w fun e w' => e = .returned (.bool true) ∧ Below w.heap.size w w' := by
  have hB : Below w.heap.size w w := Below.refl _ _
  obtain ⟨a, ca, a1, a2⟩ : ∃ a, (∀ W, Calls Try.prog 9 #[.string s] W fun e w' => e = .returned (.string a) ∧ W = w') ∧ a.size ≤ 5000 ∧ a.size ≤ maxLen := ⟨_, fun W => short_any s W hs, shortS_max s, shortS_len s⟩
  obtain ⟨b, cb, b1, b2⟩ : ∃ a, (∀ W, Calls Try.prog 9 #[.string t] W fun e w' => e = .returned (.string a) ∧ W = w') ∧ a.size ≤ 5000 ∧ a.size ≤ maxLen := ⟨_, fun W => short_any t W ht, shortS_max t, shortS_len t⟩
  obtain ⟨c, cc, c1, c2⟩ : ∃ a, (∀ W, Calls Try.prog 9 #[.string u] W fun e w' => e = .returned (.string a) ∧ W = w') ∧ a.size ≤ 5000 ∧ a.size ≤ maxLen := ⟨_, fun W => short_any u W hu, shortS_max u, shortS_len u⟩
  have CA : Hid (∀ W, Calls Try.prog 9 #[.string s] W fun e w' => e = .returned (.string a) ∧ W = w') := ca
  have CB : Hid (∀ W, Calls Try.prog 9 #[.string t] W fun e w' => e = .returned (.string b) ∧ W = w') := cb
  have CC : Hid (∀ W, Calls Try.prog 9 #[.string u] W fun e w' => e = .returned (.string c) ∧ W = w') := cc
  clear ca cb cc hs ht hu
  have h1 : ¬ 9223372036854775807 < a.size + b.size := by omega
  have h2 : ¬ 9223372036854775807 < (a ++ b).size + c.size := by rw [ByteArray.size_append]; omega
  have d1 : Hid ((a ++ b).size ≤ maxLen) := by show (a ++ b).size ≤ maxLen; rw [ByteArray.size_append]; unfold maxLen; omega
  have d2 : Hid ((a ++ b ++ c).size ≤ maxLen) := by show (a ++ b ++ c).size ≤ maxLen; rw [ByteArray.size_append, ByteArray.size_append]; unfold maxLen; omega
  have A2 : Hid (a.size ≤ maxLen) := a2
  have B2 : Hid (b.size ≤ maxLen) := b2
  have C2 : Hid (c.size ≤ maxLen) := c2
  clear a2 b2 c2
  have e1 : cat [a, b, c] = a ++ b ++ c := cat_three _ _ _
  have e2 : ofS (a ++ b) = onS (ofS a) b := ofS_append _ _
  have e3 : onS 7 (a ++ b) = onS (onS 7 a) b := onS_append (by decide) _ _
  have l1 : Hid (ofS a < 4294967296) := ofS_lt _
  have l2 : Hid (onS 7 a < 4294967296) := onS_lt _ _
  have s1 : True := trivial
  have s2 : True := trivial
  have t1 : True := trivial
  have t2 : True := trivial
  have t3 : True := trivial
  have t4 : True := trivial
  have n1 : True := trivial
  have n2 : True := trivial
  have n3 : True := trivial
  go_enter Try.func4, Try.ntmps4
  go_wp2_with (first
    | (go_at_call 9; have _t := s1; refine (CA.out _).mono ?_; rintro e w' ⟨rfl, rfl⟩; clear s1)
    | (go_at_call 9; have _t := s2; refine (CB.out _).mono ?_; rintro e w' ⟨rfl, rfl⟩; clear s2)
    | (go_at_call 9; refine (CC.out _).mono ?_; rintro e w' ⟨rfl, rfl⟩)
    | (go_at_call 11; have _t := t1; refine (of_three a b c _ A2.out B2.out C2.out).mono ?_; rintro e w' ⟨rfl, hb⟩; replace hB := Below.tr hB hb; clear hb t1)
    | (go_at_call 11; have _t := t2; refine (of_one (a ++ b ++ c) _ d2.out).mono ?_; rintro e w' ⟨rfl, hb⟩; replace hB := Below.tr hB hb; clear hb t2)
    | (go_at_call 11; have _t := t3; refine (of_one a _ A2.out).mono ?_; rintro e w' ⟨rfl, hb⟩; replace hB := Below.tr hB hb; clear hb t3)
    | (go_at_call 11; have _t := t4; refine (of_one (a ++ b) _ d1.out).mono ?_; rintro e w' ⟨rfl, hb⟩; replace hB := Below.tr hB hb; clear hb t4)
    | (go_at_call 11; refine (of_none _ _ _).mono ?_; rintro e w' ⟨rfl, rfl⟩)
    | (go_at_call 13; have _t := n1; refine (on_ok (ofS a) b _ l1.out B2.out).mono ?_; rintro e w' ⟨rfl, rfl⟩; clear n1)
    | (go_at_call 13; have _t := n2; refine (on_ok 7 a _ (by decide) A2.out).mono ?_; rintro e w' ⟨rfl, rfl⟩; clear n2)
    | (go_at_call 13; have _t := n3; refine (on_ok (onS 7 a) b _ l2.out B2.out).mono ?_; rintro e w' ⟨rfl, rfl⟩; clear n3)
    | (go_at_call 13; refine (on_ok 7 (a ++ b) _ (by decide) d1.out).mono ?_; rintro e w' ⟨rfl, rfl⟩)
    | (go_at_call 10; refine (alive_any _).mono ?_; rintro e w' ⟨rfl, hb⟩; replace hB := Below.tr hB hb; clear hb))
  go_ret
  exact ⟨rfl, hB⟩

end Go.Proofs.Ytdnmiipeimfccaa

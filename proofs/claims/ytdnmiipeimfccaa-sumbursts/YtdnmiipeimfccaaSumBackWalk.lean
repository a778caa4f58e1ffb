/-
  The walk of the law SumBack: it returns true at all arguments.
-/
import Derived.Test.YtdnmiipeimfccaaSumRefSeal
namespace Go.Proofs.Ytdnmiipeimfccaa
open Go.RowKit Plain

theorem sealS_size (s : ByteArray) : (sealS s).size = s.size + 4 := by
  unfold sealS; rw [ByteArray.size_append, le4S_size]

theorem headS_seal (s : ByteArray) : headS (sealS s) = s := by
  apply bytes_ext
  unfold headS
  rw [sealS_size]
  unfold sealS
  simp only [ByteArray.data_extract, Array.toList_extract, List.extract_eq_take_drop, data_append]
  simp

theorem tailS_seal (s : ByteArray) : tailS (sealS s) = le4S (ofS s) := by
  have h := split_text (sealS s) (by rw [sealS_size]; omega)
  rw [headS_seal] at h
  have h2 : s.data.toList ++ (tailS (sealS s)).data.toList = s.data.toList ++ (le4S (ofS s)).data.toList := by
    rw [← data_append, ← data_append, h]; rfl
  exact bytes_ext (List.append_cancel_left h2)

theorem openE_seal (s : ByteArray) : openE (sealS s) = 0 := by
  unfold openE
  rw [if_neg (by rw [sealS_size]; omega), headS_seal, tailS_seal, if_pos rfl]

theorem openS_seal (s : ByteArray) : openS (sealS s) = s := by
  unfold openS
  rw [openE_seal, if_pos rfl, headS_seal]

theorem openE_kinds (s : ByteArray) : openE s = 0 ∨ openE s = 3 ∨ openE s = 41 := by
  unfold openE
  split
  · exact .inr (.inl rfl)
  · split
    · exact .inl rfl
    · exact .inr (.inr rfl)

theorem openE_zero {s : ByteArray} (h : openE s = 0) : sealS (openS s) = s := by
  have hs : openS s = headS s := by unfold openS; rw [if_pos h]
  unfold openE at h
  split at h
  · cases h
  · rename_i h4
    split at h
    · rename_i ht
      rw [hs]
      exact (sealed_head s (by omega)).2 ht
    · cases h

theorem openS_le (s : ByteArray) : (openS s).size ≤ s.size := by
  unfold openS headS
  split
  · rw [ByteArray.size_extract]; omega
  · exact Nat.zero_le _

set_option maxHeartbeats 1000000 in
theorem sumBack_walk (s : ByteArray) (w : World) (hs : s.size ≤ maxLen) :
    Calls Try.prog 8 #[.string s] w fun e w' => e = .returned (.bool true) ∧ Below w.heap.size w w' := by
  have hB : Below w.heap.size w w := Below.refl _ _
  obtain ⟨a, ca, a1⟩ : ∃ a, (∀ W, Calls Try.prog 9 #[.string s] W fun e w' => e = .returned (.string a) ∧ W = w') ∧ a.size ≤ 5000 := ⟨_, fun W => short_any s W hs, shortS_max s⟩
  have CA : Hid (∀ W, Calls Try.prog 9 #[.string s] W fun e w' => e = .returned (.string a) ∧ W = w') := ca
  have h1 : Hid (a.size ≤ maxLen) := Nat.le_trans a1 (by decide)
  have h2 : Hid (a.size ≤ 1000000) := Nat.le_trans a1 (by decide)
  have h3 : Hid ((sealS a).size ≤ maxLen) := by show (sealS a).size ≤ maxLen; rw [sealS_size]; unfold maxLen; omega
  have h4 : Hid ((openS a).size ≤ 1000000) := Nat.le_trans (openS_le a) (Nat.le_trans a1 (by decide))
  have e1 := openE_seal a
  have e2 := openS_seal a
  have t1 : True := trivial
  have t2 : True := trivial
  clear ca hs a1
  rcases openE_kinds a with h | h
  · have e3 := openE_zero h
    go_enter Try.func8, Try.ntmps8
    go_wp2_with (first
      | (go_at_call 9; refine (CA.out _).mono ?_; rintro e w' ⟨rfl, rfl⟩)
      | (go_at_call 17; have _t := t1; refine (seal_ok a _ h2.out).mono ?_; rintro e w' ⟨rfl, hb⟩; replace hB := Below.tr hB hb; clear hb t1)
      | (go_at_call 15; have _t := t2; refine (open_any (sealS a) _ h3.out).mono ?_; rintro e w' ⟨rfl, hb⟩; replace hB := Below.tr hB hb; clear hb t2)
      | (go_at_call 15; refine (open_any a _ h1.out).mono ?_; rintro e w' ⟨rfl, hb⟩; replace hB := Below.tr hB hb; clear hb)
      | (go_at_call 17; refine (seal_ok (openS a) _ h4.out).mono ?_; rintro e w' ⟨rfl, hb⟩; replace hB := Below.tr hB hb; clear hb)
      | (go_at_call 10; refine (alive_any _).mono ?_; rintro e w' ⟨rfl, hb⟩; replace hB := Below.tr hB hb; clear hb))
    go_ret
    exact ⟨rfl, hB⟩
  · have hne : (openE a == 0) = false := by rcases h with h | h <;> rw [h] <;> rfl
    go_enter Try.func8, Try.ntmps8
    go_wp2_with (first
      | (go_at_call 9; refine (CA.out _).mono ?_; rintro e w' ⟨rfl, rfl⟩)
      | (go_at_call 17; have _t := t1; refine (seal_ok a _ h2.out).mono ?_; rintro e w' ⟨rfl, hb⟩; replace hB := Below.tr hB hb; clear hb t1)
      | (go_at_call 15; have _t := t2; refine (open_any (sealS a) _ h3.out).mono ?_; rintro e w' ⟨rfl, hb⟩; replace hB := Below.tr hB hb; clear hb t2)
      | (go_at_call 15; refine (open_any a _ h1.out).mono ?_; rintro e w' ⟨rfl, hb⟩; replace hB := Below.tr hB hb; clear hb)
      | (go_at_call 10; refine (alive_any _).mono ?_; rintro e w' ⟨rfl, hb⟩; replace hB := Below.tr hB hb; clear hb))
    go_ret
    exact ⟨rfl, hB⟩

end Go.Proofs.Ytdnmiipeimfccaa

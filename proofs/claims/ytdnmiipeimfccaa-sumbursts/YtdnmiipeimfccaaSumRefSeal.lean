/-
  What the document's own Seal, Open and Turned do.
-/
import Derived.Test.YtdnmiipeimfccaaSumSeal
namespace Go.Proofs.Ytdnmiipeimfccaa
open Go.RowKit Plain
set_option linter.unusedVariables false

theorem le4_cells (n : Nat) : (#[.int .u8 ((n : Int) % 256), .int .u8 ((n : Int) / 256 % 256), .int .u8 ((n : Int) / 65536 % 256), .int .u8 ((n : Int) / 16777216 % 256)] : Array Value) = ((le4 n).map cellOf).toArray := by
  have e1 : ((n : Int) / 256) = ((n / 256 : Nat) : Int) := by omega
  have e2 : ((n : Int) / 65536) = ((n / 65536 : Nat) : Int) := by omega
  have e3 : ((n : Int) / 16777216) = ((n / 16777216 : Nat) : Int) := by omega
  rw [e1, e2, e3, cell_mod, cell_mod, cell_mod, cell_mod]
  rfl

set_option maxHeartbeats 400000 in
theorem refSeal_ok (s : ByteArray) (w : World) (hs : s.size ≤ 1000000) :
    Calls Try.prog 18 #[.string s] w fun e w' => e = .returned (.string (sealS s)) ∧ Below w.heap.size w w' := by
  have hm : Hid (s.size ≤ maxLen) := Nat.le_trans hs (by decide)
  have hl := ofS_lt s
  have hcv := conv_row w (le4 (ofS s)) 4 rfl 4
  rw [← le4_cells, show ((ofS s : Nat) : Int) / 16777216 % 256 = ((ofS s : Nat) : Int) / 16777216 by omega] at hcv
  have hadd : ¬ 9223372036854775807 < s.size + (le4S (ofS s)).size := by rw [le4S_size]; omega
  unfold le4S at hadd
  go_enter Try.func18, Try.ntmps18
  go_wp2_with (go_at_call 12; refine (refOf_ok _ _ hm.out).mono ?_; rintro e w' ⟨rfl, rfl⟩)
  go_ret
  exact ⟨rfl, (Below.refl _ _).alloc (Nat.le_refl _) _⟩

theorem split_text (s : ByteArray) (h : 4 ≤ s.size) : headS s ++ tailS s = s := by
  apply bytes_ext
  rw [data_append]
  unfold headS tailS
  simp only [ByteArray.data_extract, Array.toList_extract, List.extract_eq_take_drop]
  simp
  have : s.data.toList.length = s.size := rfl
  conv => rhs; rw [← List.take_append_drop (s.size - 4) s.data.toList]
  congr 1
  apply List.take_of_length_le
  simp

theorem sealed_head (s : ByteArray) (h : 4 ≤ s.size) : sealS (headS s) = s ↔ tailS s = le4S (ofS (headS s)) := by
  have hs := split_text s h
  unfold sealS
  constructor
  · intro he
    have h2 : (headS s).data.toList ++ (le4S (ofS (headS s))).data.toList = (headS s).data.toList ++ (tailS s).data.toList := by
      rw [← data_append, ← data_append, he, hs]
    exact (bytes_ext (List.append_cancel_left h2)).symm
  · intro he
    rw [← he, hs]

set_option maxHeartbeats 400000 in
theorem refOpen_any (s : ByteArray) (w : World) (hs : s.size ≤ 1000000) :
    Calls Try.prog 16 #[.string s] w fun e w' => e = .returned (.tuple #[.string (openS s), .int .i64 (openE s)]) ∧ Below w.heap.size w w' := by
  have hB : Below w.heap.size w w := Below.refl _ _
  by_cases h4 : s.size < 4
  · have e1 : openE s = 3 := by unfold openE; rw [if_pos h4]
    have e2 : openS s = ⟨#[]⟩ := by unfold openS; rw [if_neg (by rw [e1]; decide)]
    rw [e1, e2]
    have h4' : (s.size : Int) < 4 := by omega
    go_enter Try.func16, Try.ntmps16
    go_wp2
    go_ret2
    exact ⟨rfl, hB⟩
  · have h4' : ¬ (s.size : Int) < 4 := by omega
    have hh := sealed_head s (by omega)
    have eh : headS s = s.extract 0 (s.size - 4) := rfl
    obtain ⟨m, hm4⟩ : ∃ m : Nat, s.size - 4 = m := ⟨_, rfl⟩
    rw [hm4] at eh
    have ez : (s.size : Int) - 4 = (m : Int) := by omega
    have b1 : (0 : Int) ≤ (m : Int) := by omega
    have b2 : (m : Int) ≤ s.size := by omega
    have hm : (s.extract 0 m).size ≤ 1000000 := by rw [ByteArray.size_extract]; omega
    by_cases hq : tailS s = le4S (ofS (headS s))
    · have e1 : openE s = 0 := by unfold openE; rw [if_neg h4, if_pos hq]
      have e2 : openS s = s.extract 0 m := by unfold openS; rw [if_pos e1, eh]
      rw [e1, e2]
      have hq2 := hh.2 hq
      rw [eh] at hq2
      have hq' : (!(sealS (s.extract 0 m)).toList == s.toList) = false := str_ne_false hq2
      clear hq eh e1 e2 hh hq2
      go_enter Try.func16, Try.ntmps16
      go_wp2_with (go_at_call 18; refine (refSeal_ok (s.extract 0 m) _ hm).mono ?_; rintro e w' ⟨rfl, hb⟩; replace hB := Below.tr hB hb; clear hb)
      go_ret2
      exact ⟨rfl, hB⟩
    · have e1 : openE s = 41 := by unfold openE; rw [if_neg h4, if_neg hq]
      have e2 : openS s = ⟨#[]⟩ := by unfold openS; rw [if_neg (by rw [e1]; decide)]
      rw [e1, e2]
      have hq2 : ¬ sealS (headS s) = s := fun h => hq (hh.1 h)
      rw [eh] at hq2
      have hq' : (!(sealS (s.extract 0 m)).toList == s.toList) = true := str_ne_true hq2
      clear hq eh e1 e2 hh hq2
      go_enter Try.func16, Try.ntmps16
      go_wp2_with (go_at_call 18; refine (refSeal_ok (s.extract 0 m) _ hm).mono ?_; rintro e w' ⟨rfl, hb⟩; replace hB := Below.tr hB hb; clear hb)
      go_ret2
      exact ⟨rfl, hB⟩

end Go.Proofs.Ytdnmiipeimfccaa

/-
  What the document's own Seal, Open and Turned do.
-/
import Derived.Test.YtcdcnonkoffbhaaSumSeal
namespace Go.Proofs.Ytcdcnonkoffbhaa
open Go.RowKit Plain
set_option linter.unusedVariables false

theorem le4_cells (n : Nat) : (#[.int .u8 ((n : Int) % 256), .int .u8 ((n : Int) / 256 % 256), .int .u8 ((n : Int) / 65536 % 256), .int .u8 ((n : Int) / 16777216 % 256)] : Array Value) = ((le4 n).map cellOf).toArray := by
  have e1 : ((n : Int) / 256) = ((n / 256 : Nat) : Int) := by omega
  have e2 : ((n : Int) / 65536) = ((n / 65536 : Nat) : Int) := by omega
  have e3 : ((n : Int) / 16777216) = ((n / 16777216 : Nat) : Int) := by omega
  rw [e1, e2, e3, cell_mod, cell_mod, cell_mod, cell_mod]
  rfl

set_option maxHeartbeats 400000 in
theorem refSeal_ok (s : ByteArray) (w : World) (hs : s.size ≤ 1000000) :
    Calls Try.prog 52 #[.string s] w fun e w' => e = .returned (.string (sealS s)) ∧ Below w.heap.size w w' := by
  have hm : Hid (s.size ≤ maxLen) := Nat.le_trans hs (by decide)
  have hl := ofS_lt s
  have hcv := conv_row w (le4 (ofS s)) 4 rfl 4
  rw [← le4_cells, show ((ofS s : Nat) : Int) / 16777216 % 256 = ((ofS s : Nat) : Int) / 16777216 by omega] at hcv
  have hadd : ¬ 9223372036854775807 < s.size + (le4S (ofS s)).size := by rw [le4S_size]; omega
  unfold le4S at hadd
  go_enter Try.func52, Try.ntmps52
  go_wp2_with (go_at_call 74; refine (refOf_ok _ _ hm.out).mono ?_; rintro e w' ⟨rfl, rfl⟩)
  go_ret
  exact ⟨rfl, (Below.refl _ _).alloc (Nat.le_refl _) _⟩

theorem split_text (s : ByteArray) (h : 4 ≤ s.size) : headS s ++ tailS s = s := by
  apply bytes_ext
  rw [data_append]
  unfold headS tailS
  simp only [ByteArray.data_extract, Array.toList_extract, List.extract_eq_take_drop]
  simp
  have : s.data.toList.length = s.size := rfl
  conv => rhs; rw [← List.take_append_drop (s.size - 4) s.data.toList]
  congr 1
  apply List.take_of_length_le
  simp

theorem sealed_head (s : ByteArray) (h : 4 ≤ s.size) : sealS (headS s) = s ↔ tailS s = le4S (ofS (headS s)) := by
  have hs := split_text s h
  unfold sealS
  constructor
  · intro he
    have h2 : (headS s).data.toList ++ (le4S (ofS (headS s))).data.toList = (headS s).data.toList ++ (tailS s).data.toList := by
      rw [← data_append, ← data_append, he, hs]
    exact (bytes_ext (List.append_cancel_left h2)).symm
  · intro he
    rw [← he, hs]


end Go.Proofs.Ytcdcnonkoffbhaa

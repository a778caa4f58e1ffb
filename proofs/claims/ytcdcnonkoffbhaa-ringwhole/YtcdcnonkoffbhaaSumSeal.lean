/-
  What sum.bytesOf, sum.Seal and sum.Open do, for every text.
-/
import Derived.Test.YtcdcnonkoffbhaaSumRef
import Derived.Test.YtcdcnonkoffbhaaShelf
import Derived.Deep.RegionHeld3
namespace Go.Proofs.Ytcdcnonkoffbhaa
open Go.RowKit Plain
set_option linter.unusedVariables false



/-- A row of four bytes of which the first i are the sum's. -/
def le4C (n i : Nat) : Array Value := (((le4 n).take i ++ List.replicate (4 - i) 0).map cellOf).toArray

theorem le4C_zero (n : Nat) : le4C n 0 = madeCells #[.int .u8 0] 4 := by
  apply Array.toList_inj.1
  rw [toList_madeCells_one]
  simp [le4C, cellOf]

theorem le4C_full (n : Nat) : le4C n 4 = ((le4 n).map cellOf).toArray := by
  simp [le4C, le4]

theorem cell_mod (x : Nat) : (Value.int .u8 ((x : Int) % 256)) = cellOf (UInt8.ofNat (x % 256)) := by
  unfold cellOf
  rw [UInt8.toNat_ofNat']
  congr 1
  omega

theorem le4C_succ (n i : Nat) (h : i < 4) : (le4C n i).setIfInBounds i (.int .u8 ((n : Int) / 2 ^ (8 * i) % 256)) = le4C n (i + 1) := by
  have e : ((n : Int) / 2 ^ (8 * i)) = ((n / 2 ^ (8 * i) : Nat) : Int) := by
    rw [Int.natCast_ediv]; simp
  rw [e, cell_mod]
  match i, h with
  | 0, _ => simp [le4C, le4]
  | 1, _ => simp [le4C, le4]
  | 2, _ => simp [le4C, le4]
  | 3, _ => simp [le4C, le4]

theorem le4C_get (n i : Nat) (h : i < 4) : ∃ x : Int, (le4C n i)[i]? = some (.int .u8 x) := by
  match i, h with
  | 0, _ => exact ⟨_, rfl⟩
  | 1, _ => exact ⟨_, rfl⟩
  | 2, _ => exact ⟨_, rfl⟩
  | 3, _ => exact ⟨_, rfl⟩

/-- A sum's four bytes. -/
def le4S (n : Nat) : ByteArray := ⟨(le4 n).toArray⟩

theorem le4S_size (n : Nat) : (le4S n).size = 4 := rfl

set_option maxHeartbeats 400000 in
theorem bytesOf_ok (n : Nat) (w : World) (hn : n < 4294967296) :
    Calls Try.prog 68 #[.int .u32 n] w fun e w' => e = .returned (.string (le4S n)) ∧ Below w.heap.size w w' := by
  have hmk : ∀ W : World, (Instr.makeSlice 59 (.int .i64 4) (.int .i64 4)).run Try.prog W = .ok (.slice (some ⟨W.heap.size, 0, none⟩) 4 4) (W.alloc (.cells (madeCells #[.int .u8 0] 4) 5)) := fun W => run_make_row' (P := Try.prog) 59 5 (.int .u8 0) 1 Try.underlying59 Try.info5 rfl .i64 .i64 4 (by omega) (by omega) W
  go_enter Try.func68, Try.ntmps68
  go_wp2
  go_loopw [6] (fun v wr => ∃ i : Nat, i ≤ 4 ∧ v = .int .i64 i ∧ wr = w.alloc (.cells (le4C n i) 5)) (fun v _ => 4 - (intOf v).toNat)
  case atStart => exact ⟨0, by omega, rfl, by rw [le4C_zero]⟩
  case round =>
    obtain ⟨i, hi, rfl, rfl⟩ := hrel
    by_cases hlt : i < 4
    · obtain ⟨x, hx⟩ := le4C_get n i hlt
      have HS : Hid ((le4C n i).setIfInBounds i (.int .u8 ((n : Int) / 2 ^ (8 * i) % 256)) = le4C n (i + 1)) := le4C_succ n i hlt
      go_wp2
      go_roundw
      case rel => exact ⟨i + 1, by omega, by go_num, by rw [HS.out]⟩
      case measure => simp [intOf]; omega
    · obtain rfl : i = 4 := by omega
      rw [le4C_full]
      have hcv := conv_row w (le4 n) 4 rfl 4
      go_wp2
      go_ret
      exact ⟨rfl, (Below.refl _ _).alloc (Nat.le_refl _) _⟩



/-- A sealed text. -/
def sealS (s : ByteArray) : ByteArray := s ++ le4S (ofS s)

set_option maxHeartbeats 400000 in
theorem seal_ok (s : ByteArray) (w : World) (hs : s.size ≤ 1000000) :
    Calls Try.prog 47 #[.string s] w fun e w' => e = .returned (.string (sealS s)) ∧ Below w.heap.size w w' := by
  have hB : Below w.heap.size w w := Below.refl _ _
  have hm : Hid (s.size ≤ maxLen) := Nat.le_trans hs (by decide)
  have hl : s.size + (le4S (ofS s)).size ≤ 140737488355328 := by rw [le4S_size]; omega
  go_enter Try.func47, Try.ntmps47
  go_wp2_with (first
    | (go_at_call 69; refine (of_one _ _ hm.out).mono ?_; rintro e w' ⟨rfl, hb⟩; replace hB := Below.tr hB hb; clear hb)
    | (go_at_call 68; refine (bytesOf_ok _ _ (ofS_lt _)).mono ?_; rintro e w' ⟨rfl, hb⟩; replace hB := Below.tr hB hb; clear hb)
    | (go_at_call 27; refine (all_two _ _ _ hl).mono ?_; rintro e w' ⟨rfl, hb⟩; replace hB := Below.tr hB hb; clear hb))
  go_ret
  exact ⟨rfl, hB⟩

/-- What stands ahead of the last four bytes, and these. -/
def headS (s : ByteArray) : ByteArray := s.extract 0 (s.size - 4)
def tailS (s : ByteArray) : ByteArray := s.extract (s.size - 4) s.size

def openE (s : ByteArray) : Int := if s.size < 4 then 3 else if tailS s = le4S (ofS (headS s)) then 0 else 41
def openS (s : ByteArray) : ByteArray := if openE s = 0 then headS s else ⟨#[]⟩

theorem of_one_from (w W : World) (hB : Below w.heap.size w W) (s : ByteArray) (hs : s.size ≤ maxLen) :
    Calls Try.prog 69 #[.slice (some ⟨W.heap.size, 0, none⟩) 1 1] (W.alloc (.cells #[.string s] 9)) fun e w' => e = .returned (.int .u32 (ofS s)) ∧ Below w.heap.size w w' :=
  (of_one s W hs).mono fun e w' ⟨he, hb'⟩ => ⟨he, Below.tr hB hb'⟩

theorem bytesOf_from (w W : World) (hB : Below w.heap.size w W) (n : Nat) (hn : n < 4294967296) :
    Calls Try.prog 68 #[.int .u32 n] W fun e w' => e = .returned (.string (le4S n)) ∧ Below w.heap.size w w' :=
  (bytesOf_ok n W hn).mono fun e w' ⟨he, hb'⟩ => ⟨he, Below.tr hB hb'⟩

set_option maxHeartbeats 1000000 in
theorem open_any (s : ByteArray) (w : World) (hs : s.size ≤ maxLen) :
    Calls Try.prog 76 #[.string s] w fun e w' => e = .returned (.tuple #[.string (openS s), .int .i64 (openE s)]) ∧ Below w.heap.size w w' := by
  have hB : Below w.heap.size w w := Below.refl _ _
  have hm : Hid ((headS s).size ≤ maxLen) := by
    show (s.extract 0 (s.size - 4)).size ≤ maxLen
    rw [ByteArray.size_extract]; omega
  unfold maxLen at hs
  by_cases h4 : s.size < 4
  · have e1 : openE s = 3 := by unfold openE; rw [if_pos h4]
    have e2 : openS s = ⟨#[]⟩ := by unfold openS; rw [if_neg (by rw [e1]; decide)]
    rw [e1, e2]
    have h4' : (s.size : Int) < 4 := by omega
    go_enter Try.func76, Try.ntmps76
    go_wp2
    go_ret2
    exact ⟨rfl, hB⟩
  · have h4' : ¬ (s.size : Int) < 4 := by omega
    obtain ⟨m, hm4⟩ : ∃ m : Nat, s.size - 4 = m := ⟨_, rfl⟩
    have ez : (s.size : Int) - 4 = (m : Int) := by omega
    have b1 : (0 : Int) ≤ (m : Int) := by omega
    have b2 : (m : Int) ≤ s.size := by omega
    unfold headS at hm
    rw [hm4] at hm
    have eh : headS s = s.extract 0 m := by unfold headS; rw [hm4]
    have et : tailS s = s.extract m s.size := by unfold tailS; rw [hm4]
    by_cases hq : s.extract m s.size = le4S (ofS (s.extract 0 m))
    · have e1 : openE s = 0 := by unfold openE; rw [if_neg h4, et, eh, if_pos hq]
      have e2 : openS s = s.extract 0 m := by unfold openS; rw [if_pos e1, eh]
      rw [e1, e2]
      have hq' : (!(s.extract m s.size).toList == (le4S (ofS (s.extract 0 m))).toList) = false := str_ne_false hq
      clear hq eh et e1 e2
      go_enter Try.func76, Try.ntmps76
      go_wp2
      replace hB := Below.drew hB
      go_region_held3 (fun _ => True) (trivial) (first
        | (go_at_call 69; refine (of_one_from w _ hB (s.extract 0 m) hm.out).mono ?_; rintro e w' ⟨rfl, hb'⟩; clear hB; have hB := hb'; clear hb')
        | (go_at_call 68; refine (bytesOf_from w _ hB _ (ofS_lt _)).mono ?_; rintro e w' ⟨rfl, hb'⟩; clear hB; have hB := hb'; clear hb'))
      go_wp2
      go_ret2
      exact ⟨rfl, hB⟩
    · have e1 : openE s = 41 := by unfold openE; rw [if_neg h4, et, eh, if_neg hq]
      have e2 : openS s = ⟨#[]⟩ := by unfold openS; rw [if_neg (by rw [e1]; decide)]
      rw [e1, e2]
      have hq' : (!(s.extract m s.size).toList == (le4S (ofS (s.extract 0 m))).toList) = true := str_ne_true hq
      clear hq eh et e1 e2
      go_enter Try.func76, Try.ntmps76
      go_wp2
      replace hB := Below.drew hB
      go_region_held3 (fun _ => True) (trivial) (first
        | (go_at_call 69; refine (of_one_from w _ hB (s.extract 0 m) hm.out).mono ?_; rintro e w' ⟨rfl, hb'⟩; clear hB; have hB := hb'; clear hb')
        | (go_at_call 68; refine (bytesOf_from w _ hB _ (ofS_lt _)).mono ?_; rintro e w' ⟨rfl, hb'⟩; clear hB; have hB := hb'; clear hb'))
      go_wp2
      go_ret2
      exact ⟨rfl, hB⟩

end Go.Proofs.Ytcdcnonkoffbhaa

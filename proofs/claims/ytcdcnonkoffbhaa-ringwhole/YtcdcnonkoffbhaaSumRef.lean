/-
  What the document's own On and Of do: the same as the program's.
-/
import Derived.Test.YtcdcnonkoffbhaaSumOf
namespace Go.Proofs.Ytcdcnonkoffbhaa
open Go.RowKit Plain

theorem takeN_bits (c : Nat) (b : UInt8) : bitsN 8 c b.toNat = takeN c b := bitsN_eq 8 c b.toNat b.toNat_lt

theorem bitsN_lt (n : Nat) {c : Nat} (x : Nat) (h : c < 4294967296) : bitsN n c x < 4294967296 := by
  induction n with
  | zero => exact h
  | succ n ih =>
    rw [bitsN_snoc, stepB_eq _ _ (Nat.mod_lt _ (by decide))]
    exact zed_lt (Nat.xor_lt_two_pow (n := 32) ih (by have := Nat.mod_lt (x / 2 ^ n) (show 2 > 0 by decide); omega))

theorem bit_int (b k : Nat) (hb : b < 4294967296) : (((b : Int) % 4294967296) / 2 ^ k).tmod 2 = ((b / 2 ^ k % 2 : Nat) : Int) := by
  rw [show ((b : Int) % 4294967296) = (b : Int) by omega]
  have e : ((2 : Int) ^ k) = ((2 ^ k : Nat) : Int) := by simp
  rw [e, ← Int.natCast_ediv, Int.tmod_eq_emod_of_nonneg (Int.natCast_nonneg _)]
  omega

theorem full_sub (n : Nat) (h : n < 4294967296) : (4294967295 : Int) - (n : Int) = ((full - n : Nat) : Int) := by
  unfold full; omega

set_option maxHeartbeats 1000000 in
theorem refOn_ok (n : Nat) (s : ByteArray) (w : World) (hn : n < 4294967296) (hs : s.size ≤ maxLen) :
    Calls Try.prog 82 #[.int .u32 n, .string s] w fun e w' => e = .returned (.int .u32 (onS n s)) ∧ w = w' := by
  unfold maxLen at hs
  go_enter Try.func82, Try.ntmps82
  go_wp2
  go_loop [5, 6] (fun r v => ∃ i : Nat, i ≤ s.size ∧ v = .int .i64 i ∧ r = .int .u32 (reg (full - n) (s.data.toList.take i) : Nat)) (fun _ v => s.size - (intOf v).toNat)
  case atStart => 
    refine ⟨0, by omega, rfl, ?_⟩
    rw [List.take_zero, reg_nil, ← full_sub n hn]
  case round =>
    obtain ⟨i, hi, rfl, rfl⟩ := hrel
    by_cases hlt : i < s.size
    · have hx : reg (full - n) (s.data.toList.take i) < 4294967296 := reg_lt (by unfold full; omega) _
      have hst : Hid (reg (full - n) (s.data.toList.take (i + 1)) = takeN (reg (full - n) (s.data.toList.take i)) s[i]) := reg_take _ s i hlt
      generalize reg (full - n) (s.data.toList.take i) = x at hx hst
      go_wp2
      go_loop [5, 7] (fun r v => ∃ k : Nat, k ≤ 8 ∧ v = .int .i64 k ∧ r = .int .u32 (bitsN k x s[i].toNat : Nat)) (fun _ v => 8 - (intOf v).toNat)
      case atStart => exact ⟨0, by omega, rfl, rfl⟩
      case round =>
        obtain ⟨k, hk, rfl, rfl⟩ := hrel
        by_cases hk8 : k < 8
        · have hy := bitsN_lt k s[i].toNat hx
          have hsn : Hid (bitsN (k + 1) x s[i].toNat = stepB (bitsN k x s[i].toNat) (s[i].toNat / 2 ^ k % 2)) := bitsN_snoc k x _
          generalize bitsN k x s[i].toNat = y at hy hsn
          have hbt := bit_int s[i].toNat k (byte_lt32 _)
          have hdv : ((y / 2 : Nat) : Int) = (y : Int) / 2 := by omega
          by_cases hp : y % 2 = s[i].toNat / 2 ^ k % 2
          · have hq : ((y : Int) % 2 != (((s[i].toNat : Int) % 4294967296) / 2 ^ k).tmod 2) = false := by rw [hbt, ← hp, bne_eq_false_iff_eq]; omega
            clear hbt
            go_wp2
            go_round
            case rel => exact ⟨k + 1, by omega, by go_num, by rw [hsn.out, stepB, if_pos hp, hdv]⟩
            case measure => simp [intOf]; omega
          · have hq : ((y : Int) % 2 != (((s[i].toNat : Int) % 4294967296) / 2 ^ k).tmod 2) = true := by rw [hbt, bne_iff_ne]; intro hh; exact hp (by omega)
            clear hbt
            go_wp2
            go_round
            case rel => exact ⟨k + 1, by omega, by go_num, by rw [hsn.out, stepB, if_neg hp, ← xor_poly _ (by omega), hdv]⟩
            case measure => simp [intOf]; omega
        · obtain rfl : k = 8 := by omega
          go_wp2
          go_round
          case rel => exact ⟨i + 1, by omega, by go_num, by rw [hst.out, takeN_bits]⟩
          case measure => simp [intOf]; omega
    · obtain rfl : i = s.size := by omega
      rw [reg_all]
      have hx : reg (full - n) s.data.toList < 4294967296 := reg_lt (by unfold full; omega) _
      go_wp2
      go_ret
      refine ⟨?_, rfl⟩
      show Ending.returned (.int .u32 (4294967295 - ((reg (full - n) s.data.toList : Nat) : Int))) = _
      rw [full_sub _ hx]
      rfl

set_option maxHeartbeats 400000 in
theorem refOf_ok (s : ByteArray) (w : World) (hs : s.size ≤ maxLen) :
    Calls Try.prog 74 #[.string s] w fun e w' => e = .returned (.int .u32 (ofS s)) ∧ w = w' := by
  go_enter Try.func74, Try.ntmps74
  go_wp2_with (go_at_call 82; refine (refOn_ok 0 _ _ (by decide) hs).mono ?_; rintro e w' ⟨rfl, rfl⟩)
  go_ret
  exact ⟨rfl, rfl⟩

/-- The law's texts: at most 5000 bytes of each. -/
def shortS (s : ByteArray) : ByteArray := s.extract 0 (min s.size 5000)

theorem shortS_size (s : ByteArray) : (shortS s).size = min s.size 5000 := by
  unfold shortS; simp [ByteArray.size_extract]

theorem shortS_max (s : ByteArray) : (shortS s).size ≤ 5000 := by rw [shortS_size]; omega


end Go.Proofs.Ytcdcnonkoffbhaa

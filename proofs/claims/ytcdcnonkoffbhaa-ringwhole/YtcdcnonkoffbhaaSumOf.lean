/-
  What sum.take, sum.On and sum.Of do.
-/
import Derived.Test.YtcdcnonkoffbhaaCore
import Derived.Test.YtcdcnonkoffbhaaSumPlain
import Derived.Test.YtcdcnonkoffbhaaPlainB
import Derived.Test.YtcdcnonkoffbhaaText
import Derived.WalkSpells
import Derived.WalkLawsBesides
import Derived.Handy
import Derived.Deep.OwnRows
namespace Go.Proofs.Ytcdcnonkoffbhaa
open Go.RowKit Plain

theorem and_one (x : Nat) (h : x < 4294967296) : bits .and .u32 (x : Int) 1 = ((x % 2 : Nat) : Int) := by
  rw [show (1 : Int) = ((1 : Nat) : Int) from rfl, u32_and_nat _ _ h (by decide), nat_mask1]

theorem xor_poly (x : Nat) (h : x < 4294967296) : bits .xor .u32 (x : Int) 2197175160 = ((x ^^^ poly : Nat) : Int) := by
  rw [show (2197175160 : Int) = ((poly : Nat) : Int) from rfl, u32_xor_nat _ _ h (by decide)]

theorem xor_byte (c : Nat) (b : UInt8) (h : c < 4294967296) : bits .xor .u32 (c : Int) ((b.toNat : Int) % 4294967296) = ((c ^^^ b.toNat : Nat) : Int) := by
  have := byte_lt32 b
  rw [show ((b.toNat : Int) % 4294967296) = ((b.toNat : Nat) : Int) by omega, u32_xor_nat _ _ h this]

theorem zed_odd {x : Nat} (h : x % 2 = 1) : zed x = x / 2 ^^^ poly := by unfold zed; rw [if_neg (by omega)]
theorem zed_even {x : Nat} (h : x % 2 = 0) : zed x = x / 2 := by unfold zed; rw [if_pos (by omega)]

set_option maxHeartbeats 400000 in
theorem take_ok (c : Nat) (b : UInt8) (w : World) (hc : c < 4294967296) :
    Calls Try.prog 84 #[.int .u32 c, .int .u8 b.toNat] w fun e w' => e = .returned (.int .u32 (takeN c b)) ∧ w = w' := by
  go_enter Try.func84, Try.ntmps84
  go_wp2
  go_loop [0, 10] (fun r v => ∃ i : Nat, i ≤ 8 ∧ v = .int .i64 i ∧ r = .int .u32 (zedN i (c ^^^ b.toNat) : Nat)) (fun _ v => 8 - (intOf v).toNat)
  case atStart => exact ⟨0, by omega, rfl, by rw [xor_byte c b hc]; rfl⟩
  case round =>
    obtain ⟨i, hi, rfl, rfl⟩ := hrel
    by_cases hlt : i < 8
    · have hx : zedN i (c ^^^ b.toNat) < 4294967296 := zedN_lt i (Nat.xor_lt_two_pow (n := 32) hc (byte_lt32 b))
      have hs : Hid (zedN (i + 1) (c ^^^ b.toNat) = zed (zedN i (c ^^^ b.toNat))) := zedN_succ i _
      generalize zedN i (c ^^^ b.toNat) = x at hx hs
      by_cases hp : x % 2 = 1
      · have hand : bits .and .u32 (x : Int) 1 = 1 := by rw [and_one x hx, hp]; rfl
        go_wp2
        go_round
        case rel => 
          refine ⟨i + 1, by omega, by go_num, ?_⟩
          rw [hs.out, zed_odd hp, ← xor_poly _ (by omega)]
          rfl
        case measure => simp [intOf]; omega
      · have hand : bits .and .u32 (x : Int) 1 = 0 := by rw [and_one x hx]; omega
        go_wp2
        go_round
        case rel => 
          refine ⟨i + 1, by omega, by go_num, ?_⟩
          rw [hs.out, zed_even (by omega)]
          rfl
        case measure => simp [intOf]; omega
    · obtain rfl : i = 8 := by omega
      go_wp2
      go_ret
      exact ⟨rfl, rfl⟩

theorem getElem_list (s : ByteArray) (i : Nat) (h : i < s.size) : s.data.toList[i]? = some s[i] := by
  rw [List.getElem?_eq_getElem (by exact h)]
  rfl

theorem reg_take (c : Nat) (s : ByteArray) (i : Nat) (h : i < s.size) : reg c (s.data.toList.take (i + 1)) = takeN (reg c (s.data.toList.take i)) s[i] := by
  rw [List.take_add_one, getElem_list s i h, reg_append]
  rfl

theorem reg_all (c : Nat) (s : ByteArray) : reg c (s.data.toList.take s.size) = reg c s.data.toList := by
  rw [List.take_of_length_le (by exact Nat.le_refl _)]

theorem xor_max (n : Nat) (h : n < 4294967296) : bits .xor .u32 IntKind.u32.max (n : Int) = ((full - n : Nat) : Int) := by
  rw [show IntKind.u32.max = ((full : Nat) : Int) from rfl, u32_xor_nat _ _ full_lt h, flip_eq h]

set_option maxHeartbeats 400000 in
theorem on_ok (n : Nat) (s : ByteArray) (w : World) (hn : n < 4294967296) (hs : s.size ≤ maxLen) :
    Calls Try.prog 79 #[.int .u32 n, .string s] w fun e w' => e = .returned (.int .u32 (onS n s)) ∧ w = w' := by
  unfold maxLen at hs
  have hmx : ¬ IntKind.u32.signed = true := by decide
  go_enter Try.func79, Try.ntmps79
  go_wp2
  go_loop [5, 11] (fun r v => ∃ i : Nat, i ≤ s.size ∧ v = .int .i64 i ∧ r = .int .u32 (reg (full - n) (s.data.toList.take i) : Nat)) (fun _ v => s.size - (intOf v).toNat)
  case atStart => refine ⟨0, by omega, rfl, ?_⟩; rw [xor_max n hn]; rfl
  case round =>
    obtain ⟨i, hi, rfl, rfl⟩ := hrel
    by_cases hlt : i < s.size
    · have hx : reg (full - n) (s.data.toList.take i) < 4294967296 := reg_lt (by unfold full; omega) _
      have hst : Hid (reg (full - n) (s.data.toList.take (i + 1)) = takeN (reg (full - n) (s.data.toList.take i)) s[i]) := reg_take _ s i hlt
      generalize reg (full - n) (s.data.toList.take i) = x at hx hst
      go_wp2_with (go_at_call 84; refine (take_ok x _ _ hx).mono ?_; rintro e w' ⟨rfl, rfl⟩)
      go_round
      case rel =>
        refine ⟨i + 1, by omega, by go_num, ?_⟩
        rw [hst.out]
      case measure => simp [intOf]; omega
    · obtain rfl : i = s.size := by omega
      rw [reg_all]
      have hx : reg (full - n) s.data.toList < 4294967296 := reg_lt (by unfold full; omega) _
      go_wp2
      go_ret
      refine ⟨?_, rfl⟩
      show Ending.returned (.int .u32 (bits .xor .u32 IntKind.u32.max (reg (full - n) s.data.toList : Nat))) = _
      rw [xor_max _ hx]
      rfl

theorem sumOf_take (xs : List ByteArray) (j : Nat) (x : ByteArray) (h : xs[j]? = some x) : ofS (cat (xs.take (j + 1))) = onS (ofS (cat (xs.take j))) x := by
  unfold ofS onS
  rw [List.take_add_one, h, cat_append, data_append, sumOf_append]
  show sumOn _ (cat [x]).data.toList = _
  rw [cat_one]

set_option maxHeartbeats 400000 in
/-- OF, at a row of texts that lies in memory. -/
theorem of_row (bk o c : Nat) (xs : List ByteArray) (w : World) (hcells : ∀ (j : Nat) x, xs[j]? = some x → w.cell? ⟨bk, o + j, none⟩ = some (.string x)) (hcap : xs.length ≤ c) (hc : c ≤ maxLen) (hsz : ∀ x ∈ xs, x.size ≤ maxLen) :
    Calls Try.prog 69 #[.slice (some ⟨bk, o, none⟩) xs.length c] w fun e w' => e = .returned (.int .u32 (ofS (cat xs))) ∧ w = w' := by
  unfold maxLen at hc
  have HC : Hid (∀ (j : Nat) x, xs[j]? = some x → w.cell? ⟨bk, o + j, none⟩ = some (.string x)) := hcells
  clear hcells
  have HZ : Hid (∀ x ∈ xs, x.size ≤ maxLen) := hsz
  clear hsz
  go_enter Try.func69, Try.ntmps69
  go_wp2
  go_loop [3, 8] (fun r v => ∃ j : Nat, j ≤ xs.length ∧ v = .int .i64 j ∧ r = .int .u32 (ofS (cat (xs.take j)) : Nat)) (fun _ v => xs.length - (intOf v).toNat)
  case atStart =>
    refine ⟨0, by omega, rfl, ?_⟩
    rw [List.take_zero, show ofS (cat []) = 0 from sumOn_nil (by decide)]
    rfl
  case round =>
    obtain ⟨j, hj, rfl, rfl⟩ := hrel
    by_cases hlt : j < xs.length
    · obtain ⟨x, hx⟩ : ∃ x, xs[j]? = some x := ⟨_, List.getElem?_eq_getElem hlt⟩
      have hcell := HC.out j x hx
      have hxs := HZ.out x (List.mem_of_getElem? hx)
      have hst : Hid (ofS (cat (xs.take (j + 1))) = onS (ofS (cat (xs.take j))) x) := sumOf_take xs j x hx
      have hlt32 := ofS_lt (cat (xs.take j))
      clear hx
      generalize ofS (cat (xs.take j)) = y at hlt32 hst
      go_wp2_with (go_at_call 79; refine (on_ok _ _ _ hlt32 hxs).mono ?_; rintro e w' ⟨rfl, rfl⟩)
      go_round
      case rel =>
        refine ⟨j + 1, by omega, by go_num, ?_⟩
        rw [hst.out]
      case measure => simp [intOf]; omega
    · obtain rfl : j = xs.length := by omega
      rw [List.take_length]
      go_wp2
      go_ret
      exact ⟨rfl, rfl⟩


theorem of_one (s : ByteArray) (w : World) (hs : s.size ≤ maxLen) :
    Calls Try.prog 69 #[.slice (some ⟨w.heap.size, 0, none⟩) 1 1] (w.alloc (.cells #[.string s] 9)) fun e w' => e = .returned (.int .u32 (ofS s)) ∧ Below w.heap.size w w' := by
  have h := of_row w.heap.size 0 1 [s] (w.alloc (.cells #[.string s] 9)) ?_ (by simp) (by decide) (by simpa using hs)
  · rw [cat_one] at h
    refine h.mono fun e w' ⟨he, hw⟩ => ⟨he, hw ▸ (Below.refl _ _).alloc (Nat.le_refl _) _⟩
  intro j x hj
  rw [Nat.zero_add, World.cell?_alloc_at _ _ _ _ rfl]
  match j, hj with
  | 0, hj => simp at hj; subst hj; rfl

theorem of_three (a b c : ByteArray) (w : World) (ha : a.size ≤ maxLen) (hb : b.size ≤ maxLen) (hc : c.size ≤ maxLen) :
    Calls Try.prog 69 #[.slice (some ⟨w.heap.size, 0, none⟩) 3 3] (w.alloc (.cells #[.string a, .string b, .string c] 9)) fun e w' => e = .returned (.int .u32 (ofS (cat [a, b, c]))) ∧ Below w.heap.size w w' := by
  refine (of_row w.heap.size 0 3 [a, b, c] _ ?_ (by simp) (by decide) (by simp [ha, hb, hc])).mono fun e w' ⟨he, hw⟩ => ⟨he, hw ▸ (Below.refl _ _).alloc (Nat.le_refl _) _⟩
  intro j x hj
  rw [Nat.zero_add, World.cell?_alloc_at _ _ _ _ rfl]
  match j, hj with
  | 0, hj => simp at hj; subst hj; rfl
  | 1, hj => simp at hj; subst hj; rfl
  | 2, hj => simp at hj; subst hj; rfl

set_option maxHeartbeats 400000 in
theorem of_none (w : World) (a : Option Addr) (c : Nat) :
    Calls Try.prog 69 #[.slice a 0 c] w fun e w' => e = .returned (.int .u32 0) ∧ w = w' := by
  go_enter Try.func69, Try.ntmps69
  go_wp2
  go_loop [3, 8] (fun r v => v = .int .i64 0 ∧ r = .int .u32 0) (fun _ v => 0)
  case atStart => exact ⟨rfl, rfl⟩
  case round =>
    obtain ⟨rfl, rfl⟩ := hrel
    go_wp2
    go_ret
    exact ⟨rfl, rfl⟩

theorem sum_alive : ofS ⟨#[49, 50, 51, 52, 53, 54, 55, 56, 57]⟩ = 3808858755 := by kernel_rfl


end Go.Proofs.Ytcdcnonkoffbhaa

/-
  Plain facts on turned bits.
-/
import Derived.Test.YtdnmiipeimfccaaSumTurn
import Derived.Test.YtdnmiipeimfccaaSumBackWalk
namespace Go.Proofs.Ytdnmiipeimfccaa
open Go.RowKit Plain
set_option linter.unusedVariables false

theorem mul_xor (a x y : Nat) : 2 ^ a * (x ^^^ y) = 2 ^ a * x ^^^ 2 ^ a * y := by
  have h := Nat.shiftLeft_xor_distrib (i := a) (a := x) (b := y)
  rw [Nat.shiftLeft_eq, Nat.shiftLeft_eq, Nat.shiftLeft_eq] at h
  rw [Nat.mul_comm, h, Nat.mul_comm x, Nat.mul_comm y]

theorem turnBit_low (b : UInt8) (l : List UInt8) (k : Nat) (h : k < 8) : turnBit (b :: l) k = (b ^^^ UInt8.ofNat (2 ^ k)) :: l := by
  unfold turnBit
  rw [show k / 8 = 0 by omega, show k % 8 = k by omega]
  rfl

theorem turnBit_high (b : UInt8) (l : List UInt8) (k : Nat) : turnBit (b :: l) (k + 8) = b :: turnBit l k := by
  unfold turnBit
  rw [show (k + 8) / 8 = k / 8 + 1 by omega, show (k + 8) % 8 = k % 8 by omega]
  rfl

theorem leN_turnBit (l : List UInt8) : ∀ k, k < 8 * l.length → leN (turnBit l k) = leN l ^^^ 2 ^ k := by
  induction l with
  | nil => intro k h; simp at h
  | cons b l ih =>
    intro k h
    by_cases h8 : k < 8
    · have hp : 2 ^ k < 2 ^ 8 := Nat.pow_lt_pow_right (by decide) h8
      rw [turnBit_low b l k h8, leN_cons_xor, leN_cons_xor, UInt8.toNat_xor, UInt8.toNat_ofNat', Nat.mod_eq_of_lt hp, Nat.xor_assoc, Nat.xor_assoc, Nat.xor_comm (2 ^ k)]
    · obtain ⟨j, rfl⟩ : ∃ j, k = j + 8 := ⟨k - 8, by omega⟩
      rw [turnBit_high, leN_cons_xor, leN_cons_xor, ih j (by simp at h; omega), mul_xor, ← Nat.xor_assoc, ← Nat.pow_add, Nat.add_comm 8 j]

theorem leN_turnN (l : List UInt8) (f p : Nat) : ∀ i, ∃ q, q < 2 ^ i ∧ leN (turnN l f p i) = leN l ^^^ 2 ^ f * q := by
  intro i
  induction i with
  | zero => exact ⟨0, by decide, by rw [Nat.mul_zero, Nat.xor_zero]; rfl⟩
  | succ i ih =>
    obtain ⟨q, hq, he⟩ := ih
    have hlt : 2 ^ i < 2 ^ (i + 1) := Nat.pow_lt_pow_right (by decide) (by omega)
    unfold turnN
    split
    · rename_i h
      refine ⟨q ^^^ 2 ^ i, Nat.xor_lt_two_pow (by omega) hlt, ?_⟩
      rw [leN_turnBit _ _ (by rw [turnN_length]; exact h.1), he, mul_xor, ← Nat.xor_assoc, ← Nat.pow_add]
    · exact ⟨q, by omega, he⟩

/-- A text of which bits within 32 are turned. -/
def turnS (s : ByteArray) (f p : Nat) : ByteArray := ⟨(turnN s.data.toList f p 32).toArray⟩

theorem turnS_size (s : ByteArray) (f p : Nat) : (turnS s f p).size = s.size := turnN_length s.data.toList f p 32

theorem turnS_reg (s : ByteArray) (f p : Nat) (hf : f ≤ 8 * s.size) : reg full s.data.toList = reg full (turnS s f p).data.toList ↔ s = turnS s f p := by
  obtain ⟨q, hq, he⟩ := leN_turnN s.data.toList f p 32
  have hl : s.data.toList.length = (turnS s f p).data.toList.length := (turnN_length s.data.toList f p 32).symm
  rw [reg_burst full (l := s.data.toList) (m := (turnS s f p).data.toList) f q hl hf hq he]
  exact ⟨bytes_ext, fun h => congrArg (fun x : ByteArray => x.data.toList) h⟩

theorem turnS_sum (s : ByteArray) (f p : Nat) (hf : f ≤ 8 * s.size) : ofS s = ofS (turnS s f p) ↔ s = turnS s f p := by
  unfold ofS
  rw [sumOf_inj_reg]
  exact turnS_reg s f p hf

/-- A text of at least four bytes is opened just where its register is that of sealed texts. -/
theorem openE_reg (t : ByteArray) (h : 4 ≤ t.size) : openE t = 0 ↔ reg full t.data.toList = zedN 32 full := by
  have hsp := split_text t h
  have hd : t.data.toList = (headS t).data.toList ++ (tailS t).data.toList := by rw [← data_append, hsp]
  have hlen : (tailS t).data.toList.length = 4 := by
    show (tailS t).size = 4
    unfold tailS; rw [ByteArray.size_extract]; omega
  have hiff := sealed_iff (headS t).data.toList (tailS t).data.toList hlen
  rw [← hd] at hiff
  rw [← hiff]
  unfold openE
  rw [if_neg (by omega)]
  constructor
  · intro h
    split at h
    · rename_i ht
      rw [ht]; rfl
    · cases h
  · intro h
    have ht : tailS t = le4S (ofS (headS t)) := bytes_ext h
    rw [if_pos ht]

theorem turned_open (a : ByteArray) (f p : Nat) (h4 : 4 ≤ a.size) (ha : openE a = 0) (hf : f ≤ 8 * a.size) : openE (turnS a f p) = 0 ↔ turnS a f p = a := by
  rw [openE_reg _ (by rw [turnS_size]; exact h4), ← (openE_reg a h4).1 ha, eq_comm, turnS_reg a f p hf, eq_comm]

end Go.Proofs.Ytdnmiipeimfccaa

/-
  What code.Put does, for every number and every number of bytes.
-/
import Derived.Test.YtnipikdlfmcheaaCore
import Derived.Test.YtnipikdlfmcheaaPlain
import Derived.WalkSpells
import Derived.WalkLawsBesides
import Derived.Handy
import Derived.Deep.OwnRows
namespace Go.Proofs.Ytnipikdlfmcheaa
open Go.RowKit Plain

/-- The bytes of a row that the call itself laid, as a text. -/
theorem conv_row (w : World) (l : List UInt8) (m : Nat) (hm : l.length = m) (cap : Nat) :
    (convert 73 9 (.slice (some ⟨w.heap.size, 0, none⟩) m cap)).run Try.prog (w.alloc (.cells ((l.map cellOf).toArray) 5)) = .ok (.string ⟨l.toArray⟩) (w.alloc (.cells ((l.map cellOf).toArray) 5)) := by
  subst hm
  refine run_convert_bytes_back (P := Try.prog) _ 73 9 5 ⟨w.heap.size, 0, none⟩ cap l Try.underlying73 Try.underlying5 Try.underlying9 fun j hj => ?_
  have e : (⟨w.heap.size, 0, none⟩ : Addr).add j = ⟨w.heap.size, j, none⟩ := by
    by_cases h : j = 0 <;> simp [Addr.add, h]
  rw [e, World.cell?_alloc_at _ _ _ _ rfl]
  simp [cellOf, hj]

set_option maxHeartbeats 400000 in
theorem put_ok (n : Int) (size : Nat) (w : World) (h0 : 0 ≤ n) (h1 : 1 ≤ size) (h6 : size ≤ 6) (hn : n < 2 ^ (8 * size)) :
    Calls Try.prog 50 #[.int .i64 n, .int .i64 size] w fun e w' => e = .returned (.tuple #[.string ⟨(putL n size).toArray⟩, .int .i64 0]) ∧ Below w.heap.size w w' := by
  have hmk := fun W => run_make_row' (P := Try.prog) 73 5 (.int .u8 0) 1 Try.underlying73 Try.info5 rfl .i64 .i64 size (by omega) (by omega) W
  have hq : (n / 2 ^ (8 * size) != 0) = false := by
    rw [Int.ediv_eq_zero_of_lt h0 hn]; rfl
  clear hn
  go_enter Try.func50, Try.ntmps50
  go_wp2
  go_loopw [25] (fun v wr => ∃ i : Nat, i ≤ size ∧ v = .int .i64 i ∧ wr = w.alloc (.cells (putC n size i) 5)) (fun v _ => size - (intOf v).toNat)
  case atStart => exact ⟨0, by omega, rfl, by rw [putC_zero]⟩
  case round =>
    obtain ⟨i, hi, rfl, rfl⟩ := hrel
    by_cases hlt : i < size
    · obtain ⟨x, hx⟩ := putC_get n size i (size - 1 - i) hi (by omega)
      have HS : Hid ((putC n size i).setIfInBounds (size - 1 - i) (.int .u8 (n / 2 ^ (8 * i) % 256)) = putC n size (i + 1)) := putC_succ n size i hlt
      go_wp2
      go_roundw
      case rel => exact ⟨i + 1, by omega, by go_num, by rw [HS.out]⟩
      case measure => simp [intOf]; omega
    · obtain rfl : i = size := by omega
      rw [putC_full]
      have hcv := conv_row w (putL n i) i (putL_length n i) i
      go_wp2
      go_ret2
      exact ⟨rfl, (Below.refl _ _).alloc (Nat.le_refl _) _⟩

/-- Which arguments Put refuses. -/
def putBad (n k : Int) : Prop := k < 1 ∨ 6 < k ∨ n < 0 ∨ 2 ^ (8 * k.toNat) ≤ n

set_option maxHeartbeats 400000 in
theorem put_bad (n k : Int) (w : World) (h : putBad n k) :
    Calls Try.prog 50 #[.int .i64 n, .int .i64 k] w fun e w' => e = .returned (.tuple #[.string ⟨#[]⟩, .int .i64 1]) ∧ w' = w := by
  by_cases h1 : k < 1
  · have h1' : ¬ 1 ≤ k := by omega
    go_enter Try.func50, Try.ntmps50
    go_wp2
    go_ret2
    exact ⟨rfl, rfl⟩
  · by_cases h6 : 6 < k
    · have h1' : 1 ≤ k := by omega
      have h6' : ¬ k ≤ 6 := by omega
      go_enter Try.func50, Try.ntmps50
      go_wp2
      go_ret2
      exact ⟨rfl, rfl⟩
    · by_cases h0 : n < 0
      · have h1' : 1 ≤ k := by omega
        have h6' : k ≤ 6 := by omega
        go_enter Try.func50, Try.ntmps50
        go_wp2
        go_ret2
        exact ⟨rfl, rfl⟩
      · obtain ⟨size, rfl⟩ : ∃ size : Nat, k = size := ⟨k.toNat, by omega⟩
        have hq : (n / 2 ^ (8 * size) != 0) = true := by
          have hb : (2 : Int) ^ (8 * size) ≤ n := by
            rcases h with h | h | h | h
            · omega
            · omega
            · omega
            · simpa using h
          have hp : (0 : Int) < 2 ^ (8 * size) := Int.pow_pos (by decide)
          have : 1 ≤ n / 2 ^ (8 * size) := by
            rw [Int.le_ediv_iff_mul_le hp]; simpa using hb
          simp; omega
        clear h
        go_enter Try.func50, Try.ntmps50
        go_wp2
        go_ret2
        exact ⟨rfl, rfl⟩

theorem putBad_of {n k : Int} (h' : putOk n k = false) : putBad n k := by
  have h : ¬ putOk n k = true := by simp [h']
  rw [putOk_iff] at h
  unfold putBad
  by_cases h1 : k < 1
  · exact .inl h1
  · by_cases h6 : 6 < k
    · exact .inr (.inl h6)
    · by_cases h0 : n < 0
      · exact .inr (.inr (.inl h0))
      · refine .inr (.inr (.inr ?_))
        exact Int.not_lt.1 fun hlt => h ⟨by omega, by omega, by omega, hlt⟩

/-- PUT, at all arguments. -/
theorem put_any (n k : Int) (w : World) :
    Calls Try.prog 50 #[.int .i64 n, .int .i64 k] w fun e w' => e = .returned (.tuple #[.string (putS n k), .int .i64 (putE n k)]) ∧ Below w.heap.size w w' := by
  by_cases h : putOk n k = true
  · rw [putS_ok h, putE_ok h]
    obtain ⟨h1, h6, h0, hn⟩ := (putOk_iff n k).1 h
    obtain ⟨size, rfl⟩ : ∃ size : Nat, k = size := ⟨k.toNat, by omega⟩
    exact put_ok n size w h0 (by omega) (by omega) (by simpa using hn)
  · have h' : putOk n k = false := by simpa using h
    rw [putS_bad h', putE_bad h']
    exact (put_bad n k w (putBad_of h')).mono fun e w' ⟨he, hw⟩ => ⟨he, hw ▸ Below.refl _ _⟩


end Go.Proofs.Ytnipikdlfmcheaa

/-
  What the document's own Put does: the same as code.Put's.
-/
import Derived.Test.YtnipikdlfmcheaaPut
import Derived.Deep.AppendLies
namespace Go.Proofs.Ytnipikdlfmcheaa
open Go.RowKit Plain

set_option maxHeartbeats 400000 in
theorem power_ok (k : Nat) (hk : k ≤ 6) (w : World) :
    Calls Try.prog 62 #[.int .i64 k] w fun e w' => e = .returned (.int .i64 (pw k)) ∧ w = w' := by
  go_enter Try.func62, Try.ntmps62
  go_wp2
  go_loop [3, 4] (fun p v => ∃ i : Nat, i ≤ k ∧ v = .int .i64 i ∧ p = .int .i64 (pw i)) (fun _ v => k - (intOf v).toNat)
  case atStart => exact ⟨0, by omega, rfl, by rw [pw_zero]⟩
  case round =>
    obtain ⟨i, hi, rfl, rfl⟩ := hrel
    have h1 := pw_pos i
    have h2 := pw_le i (by omega)
    by_cases hlt : i < k
    · go_wp2
      go_round
      case rel => exact ⟨i + 1, by omega, by go_num, by rw [pw_succ]⟩
      case measure => simp [intOf]; omega
    · go_wp2
      go_ret
      obtain rfl : i = k := by omega
      exact ⟨rfl, rfl⟩

/-- The bytes of a row that the call itself owns, as a text. -/
theorem conv_own (w : World) (base g n cap : Nat) (l : List UInt8) (hl : l.length = n) (h : w.ownsRow base 5 1 (.slice (some ⟨g, 0, none⟩) n cap) n (l.map cellOf)) :
    (convert 73 9 (.slice (some ⟨g, 0, none⟩) n cap)).run Try.prog w = .ok (.string ⟨l.toArray⟩) w := by
  subst hl
  refine run_convert_bytes_back (P := Try.prog) _ 73 9 5 ⟨g, 0, none⟩ cap l Try.underlying73 Try.underlying5 Try.underlying9 fun j hj => ?_
  exact h.cells (g := g) rfl j _ (by simp [cellOf, hj])

set_option maxRecDepth 20000 in
set_option maxHeartbeats 400000 in
theorem refPut_ok (n : Int) (size : Nat) (w : World) (h0 : 0 ≤ n) (h1 : 1 ≤ size) (h6 : size ≤ 6) (hn : n < pw size) :
    Calls Try.prog 57 #[.int .i64 n, .int .i64 size] w fun e w' => e = .returned (.tuple #[.string ⟨(putL n size).toArray⟩, .int .i64 0]) ∧ Below w.heap.size w w' := by
  obtain ⟨i0, hi, hz0, hz1, hz2⟩ := info_parts Try.info5
  have hp6 := pw_le size h6
  have hb63 : n ≤ 281474976710656 := by omega
  have hn' : ¬ pw size ≤ n := by omega
  go_enter Try.func57, Try.ntmps57
  go_wp2_with (go_at_call 62; refine (power_ok _ (by omega) _).mono ?_; rintro e w' ⟨rfl, rfl⟩)
  go_loopw [6, 7] (fun b v wr => ∃ j : Nat, j ≤ size ∧ v = .int .i64 ((j : Int) - 1) ∧ wr.ownsRow w.heap.size 5 1 b (size - j) (((putL n size).take (size - j)).map cellOf) ∧ Below w.heap.size w wr) (fun _ v _ => (intOf v + 1).toNat)
  case atStart =>
    refine ⟨size, by omega, rfl, ?_, (Below.refl _ _).alloc (Nat.le_refl _) _⟩
    rw [Nat.sub_self]
    exact World.ownsRow_made _ _ 0 (Nat.le_refl _) (by decide) rfl
  case round =>
    obtain ⟨j, hj, rfl, hown, hbel⟩ := hrel
    by_cases hlt : 0 < j
    · obtain ⟨i, rfl⟩ : ∃ i, j = i + 1 := ⟨j - 1, by omega⟩
      have ei : (((i + 1 : Nat) : Int) - 1) = (i : Int) := by omega
      rw [ei]
      have hp := pw_pos i
      have hbs := hbel.size
      have hq0 : 0 ≤ n / pw i := Int.ediv_nonneg h0 (by omega)
      go_wp2_with (first
        | (go_at_call 62; refine (power_ok _ (by omega) _).mono ?_; rintro e w' ⟨rfl, rfl⟩)
        | (at_builtin; refine wpList_append_own _ rfl _ _ 73 rfl w.heap.size 5 i0 (.int .u8 0) 1 1 Try.underlying73 hi hz0 hz1 hz2 rfl (by decide) _ _ _ rfl (hown.alloc _) ⟨wr.heap.size, 0, none⟩ 1 1 [.int .u8 (n / pw i % 256)] rfl rfl ?c1 ?c2 ?c3 ?c4 ?c5 ?_))
      case c1 =>
        intro j u hj
        match j, hj with
        | 0, hj => simp at hj; subst hj; simp [Addr.add]
      case c2 => intro u hu; simp at hu; subst hu; rfl
      case c3 => unfold maxLen; omega
      case c4 => omega
      case c5 => simp; omega
      · intro v' w1 hown' hgrow _
        have R : w1.ownsRow w.heap.size 5 1 v' (size - i) (((putL n size).take (size - i)).map cellOf) := by
          have e1 : size - (i + 1) + 1 = size - i := by omega
          rw [e1] at hown'
          rw [putL_take n size i (by omega), List.map_append, List.map_take]
          simpa [cellOf, byteOf_pw] using hown'
        have R2 : Below w.heap.size w w1 := (hbel.alloc (by omega) _).grown hgrow (by simp; omega) (fun k hk => (hown.lt k hk).1)
        clear hown' hgrow hown
        go_wp2
        go_roundw
        case rel => exact ⟨i, by omega, rfl, R, R2⟩
        case measure => simp [intOf]
    · obtain rfl : j = 0 := by omega
      rw [Nat.sub_zero] at hown
      rw [List.take_of_length_le (by rw [putL_length]; exact Nat.le_refl _)] at hown
      obtain ⟨g, cap, rfl, -, -⟩ := hown.form (by omega)
      have hcv := conv_own wr w.heap.size g size cap (putL n size) (putL_length n size) hown
      clear hown
      go_wp2
      go_ret2
      exact ⟨rfl, hbel⟩

set_option maxHeartbeats 400000 in
theorem refPut_bad (n k : Int) (w : World) (h : putBad n k) :
    Calls Try.prog 57 #[.int .i64 n, .int .i64 k] w fun e w' => e = .returned (.tuple #[.string ⟨#[]⟩, .int .i64 1]) ∧ w = w' := by
  by_cases h1 : k < 1
  · go_enter Try.func57, Try.ntmps57
    go_wp2
    go_ret2
    exact ⟨rfl, rfl⟩
  · by_cases h6 : 6 < k
    · go_enter Try.func57, Try.ntmps57
      go_wp2
      go_ret2
      exact ⟨rfl, rfl⟩
    · by_cases h0 : n < 0
      · go_enter Try.func57, Try.ntmps57
        go_wp2
        go_ret2
        exact ⟨rfl, rfl⟩
      · obtain ⟨size, rfl⟩ : ∃ size : Nat, k = size := ⟨k.toNat, by omega⟩
        have hb : pw size ≤ n := by
          rcases h with h | h | h | h
          · omega
          · omega
          · omega
          · simpa [pw] using h
        clear h
        go_enter Try.func57, Try.ntmps57
        go_wp2_with (go_at_call 62; refine (power_ok _ (by omega) _).mono ?_; rintro e w' ⟨rfl, rfl⟩)
        go_ret2
        exact ⟨rfl, rfl⟩

/-- THE DOCUMENT'S PUT, at all arguments. -/
theorem refPut_any (n k : Int) (w : World) :
    Calls Try.prog 57 #[.int .i64 n, .int .i64 k] w fun e w' => e = .returned (.tuple #[.string (putS n k), .int .i64 (putE n k)]) ∧ Below w.heap.size w w' := by
  by_cases h : putOk n k = true
  · rw [putS_ok h, putE_ok h]
    obtain ⟨h1, h6, h0, hn⟩ := (putOk_iff n k).1 h
    obtain ⟨size, rfl⟩ : ∃ size : Nat, k = size := ⟨k.toNat, by omega⟩
    exact refPut_ok n size w h0 (by omega) (by omega) (by simpa [pw] using hn)
  · have h' : putOk n k = false := by simpa using h
    rw [putS_bad h', putE_bad h']
    exact (refPut_bad n k w (putBad_of h')).mono fun e w' ⟨he, hw⟩ => ⟨he, hw ▸ Below.refl _ _⟩

end Go.Proofs.Ytnipikdlfmcheaa

/-
  The walk of the law DeviceMixed: it returns true at all arguments.
-/
import Derived.Test.YtogadbckiaghcabDevNew
namespace Go.Proofs.Ytogadbckiaghcab
open Go.RowKit Plain
set_option linter.unusedVariables false

theorem mix_len (o n : ByteArray) (m : Int) : (mixS o n m).size ≤ maxLen := Nat.le_trans (mix_size o n m) (by unfold maxLen; omega)

theorem i64_not (n : Int) (h : -9223372036854775808 ≤ n ∧ n ≤ 9223372036854775807) : bits .xor .i64 (-1) n = -1 - n := by
  have h1 : BitVec.ofInt 64 (-1) = BitVec.allOnes 64 := by decide
  have key : (BitVec.ofInt 64 (-1) ^^^ BitVec.ofInt 64 n).toNat = 2 ^ 64 - 1 - (n % ((2 ^ 64 : Nat) : Int)).toNat := by
    rw [h1, BitVec.allOnes_xor, BitVec.toNat_not, BitVec.toNat_ofInt]
  show IntKind.i64.wrap ((BitVec.ofInt 64 (-1) ^^^ BitVec.ofInt 64 n).toNat : Nat) = -1 - n
  rw [key, IntKind.wrap_i64]
  omega

set_option maxHeartbeats 2000000 in
theorem deviceMixed_walk (o n : ByteArray) (k : Int) (w : World) (ho : o.size ≤ maxLen) (hn : n.size ≤ maxLen) (_hm : (Lit.int .i64 k).wf = true) :
    Calls Try.prog 3 #[.string o, .string n, .int .i64 k] w fun e w' => e = .returned (.bool true) ∧ Below w.heap.size w w' := by
  have hB : Below w.heap.size w w := Below.refl _ _
  have hk : -9223372036854775808 ≤ k ∧ k ≤ 9223372036854775807 := by simpa [Lit.wf, IntKind.min, IntKind.max, IntKind.signed, IntKind.bits] using _hm
  obtain ⟨m, C1, C2, C3, C4, hsec, hml, hmz⟩ : ∃ m : ByteArray,
      (∀ W, Calls Try.prog 5 #[.string o, .string n, .int .i64 k] W fun e w' => e = .returned (.string m) ∧ Below W.heap.size W w') ∧
      (∀ W, Calls Try.prog 5 #[.string m, .string n, .int .i64 k] W fun e w' => e = .returned (.string m) ∧ Below W.heap.size W w') ∧
      (∀ W, Calls Try.prog 5 #[.string o, .string m, .int .i64 k] W fun e w' => e = .returned (.string m) ∧ Below W.heap.size W w') ∧
      (∀ W, Calls Try.prog 5 #[.string n, .string o, .int .i64 (bits .xor .i64 (-1) k)] W fun e w' => e = .returned (.string m) ∧ Below W.heap.size W w') ∧
      Hid (∀ i : Nat, i < 8 → sectorS m i = if bitOn k i = true then sectorS n i else sectorS o i) ∧ m.size ≤ 4096 ∧ m.size ≤ maxLen := by
    have hl := mix_len o n k
    refine ⟨mixS o n k, fun W => mix_any o n k W ho hn, fun W => ?_, fun W => ?_, fun W => ?_, fun i hi => sector_mix o n k i hi, mix_size o n k, hl⟩
    · have := mix_any (mixS o n k) n k W hl hn
      rw [mix_again] at this
      exact this
    · have := mix_any o (mixS o n k) k W ho hl
      rw [mix_onto] at this
      exact this
    · have := mix_any n o (-1 - k) W hn ho
      rw [mix_flip] at this
      rw [i64_not k hk]
      exact this
  obtain ⟨a, C5, C7⟩ : ∃ a : ByteArray,
      (∀ W, Calls Try.prog 5 #[.string o, .string n, .int .i64 0] W fun e w' => e = .returned (.string a) ∧ Below W.heap.size W w') ∧
      (∀ W, Calls Try.prog 5 #[.string a, .string ⟨#[]⟩, .int .i64 0] W fun e w' => e = .returned (.string a) ∧ Below W.heap.size W w') := by
    refine ⟨mixS o n 0, fun W => mix_any o n 0 W ho hn, fun W => ?_⟩
    have := mix_any (mixS o n 0) ⟨#[]⟩ 0 W (mix_len _ _ _) (Nat.zero_le _)
    rw [mix_none] at this
    exact this
  obtain ⟨b, C6, C8⟩ : ∃ b : ByteArray,
      (∀ W, Calls Try.prog 5 #[.string o, .string n, .int .i64 255] W fun e w' => e = .returned (.string b) ∧ Below W.heap.size W w') ∧
      (∀ W, Calls Try.prog 5 #[.string ⟨#[]⟩, .string n, .int .i64 255] W fun e w' => e = .returned (.string b) ∧ Below W.heap.size W w') := by
    refine ⟨mixS o n 255, fun W => mix_any o n 255 W ho hn, fun W => ?_⟩
    have := mix_any ⟨#[]⟩ n 255 W (Nat.zero_le _) hn
    rw [mix_full o] at this
    exact this
  have hml' : (m.size : Int) ≤ 4096 := by omega
  have t1 : True := trivial
  have t2 : True := trivial
  have t3 : True := trivial
  have t4 : True := trivial
  go_enter Try.func3, Try.ntmps3
  go_wp2_with (first
    | (go_at_call 5; have _t := t1; clear t1; refine (C1 _).mono ?_; rintro e w' ⟨rfl, hb⟩; replace hB := Below.tr hB hb; clear hb)
    | (go_at_call 5; have _t := t2; clear t2; refine (C2 _).mono ?_; rintro e w' ⟨rfl, hb⟩; replace hB := Below.tr hB hb; clear hb)
    | (go_at_call 5; have _t := t3; clear t3; refine (C3 _).mono ?_; rintro e w' ⟨rfl, hb⟩; replace hB := Below.tr hB hb; clear hb)
    | (go_at_call 5; have _t := t4; clear t4; refine (C4 _).mono ?_; rintro e w' ⟨rfl, hb⟩; replace hB := Below.tr hB hb; clear hb))
  clear C1 C2 C3 C4
  go_loopw [44] (fun v wr => ∃ i : Nat, i ≤ 8 ∧ v = .int .i64 i ∧ Below w.heap.size w wr) (fun v _ => 8 - (intOf v).toNat)
  case atStart => exact ⟨0, by omega, rfl, hB⟩
  case round =>
    clear hB
    obtain ⟨i, hi, rfl, hB⟩ := hrel
    by_cases hlt : i < 8
    · have hlt' : (i : Int) < 8 := by omega
      have hbit := bit_eq k i
      obtain ⟨x, D1, D2, D3⟩ : ∃ x : ByteArray, (∀ W, Calls Try.prog 6 #[.string m, .int .i64 i] W fun e w' => e = .returned (.string x) ∧ Below W.heap.size W w') ∧
          (∃ y : ByteArray, (∀ W, Calls Try.prog 6 #[.string o, .int .i64 i] W fun e w' => e = .returned (.string y) ∧ Below W.heap.size W w') ∧ (bitOn k i = false → x = y)) ∧
          (bitOn k i = true → ∀ W, Calls Try.prog 6 #[.string n, .int .i64 i] W fun e w' => e = .returned (.string x) ∧ Below W.heap.size W w') := by
        refine ⟨sectorS m i, fun W => sector_any m i W hmz, ⟨sectorS o i, fun W => sector_any o i W ho, fun hb => ?_⟩, fun hb W => ?_⟩
        · rw [hsec.out i hlt, if_neg (by rw [hb]; decide)]
        · rw [hsec.out i hlt, if_pos hb]; exact sector_any n i W hn
      obtain ⟨y, D2, hy⟩ := D2
      have s1 : True := trivial
      have s2 : True := trivial
      have s3 : True := trivial
      cases hb : bitOn k i with
      | true =>
        replace D3 := D3 hb
        rw [hb] at hbit
        clear hy hb hsec
        go_wp2_with (first
          | (go_at_call 6; have _t := s2; clear s2; refine (D2 _).mono ?_; rintro e w' ⟨rfl, hb⟩; replace hB := Below.tr hB hb; clear hb)
          | (go_at_call 6; have _t := s3; clear s3; refine (D3 _).mono ?_; rintro e w' ⟨rfl, hb⟩; replace hB := Below.tr hB hb; clear hb)
          | (go_at_call 6; have _t := s1; clear s1; refine (D1 _).mono ?_; rintro e w' ⟨rfl, hb⟩; replace hB := Below.tr hB hb; clear hb))
        go_roundw
        case rel => exact ⟨i + 1, by omega, by go_num, hB⟩
        case measure => simp [intOf]; omega
      | false =>
        obtain rfl := hy hb
        rw [hb] at hbit
        clear hb hsec D3 hy
        go_wp2_with (first
          | (go_at_call 6; have _t := s2; clear s2; refine (D2 _).mono ?_; rintro e w' ⟨rfl, hb⟩; replace hB := Below.tr hB hb; clear hb)
          | (go_at_call 6; have _t := s1; clear s1; refine (D1 _).mono ?_; rintro e w' ⟨rfl, hb⟩; replace hB := Below.tr hB hb; clear hb))
        go_roundw
        case rel => exact ⟨i + 1, by omega, by go_num, hB⟩
        case measure => simp [intOf]; omega
    · obtain rfl : i = 8 := by omega
      have t5 : True := trivial
      have t6 : True := trivial
      have t7 : True := trivial
      have t8 : True := trivial
      go_wp2_with (first
        | (go_at_call 7; refine (alive_any _).mono ?_; rintro e w' ⟨rfl, hb⟩; replace hB := Below.tr hB hb; clear hb)
        | (go_at_call 5; have _t := t5; clear t5; refine (C5 _).mono ?_; rintro e w' ⟨rfl, hb⟩; replace hB := Below.tr hB hb; clear hb)
        | (go_at_call 5; have _t := t6; clear t6; refine (C6 _).mono ?_; rintro e w' ⟨rfl, hb⟩; replace hB := Below.tr hB hb; clear hb)
        | (go_at_call 5; have _t := t7; clear t7; refine (C7 _).mono ?_; rintro e w' ⟨rfl, hb⟩; replace hB := Below.tr hB hb; clear hb)
        | (go_at_call 5; have _t := t8; clear t8; refine (C8 _).mono ?_; rintro e w' ⟨rfl, hb⟩; replace hB := Below.tr hB hb; clear hb))
      go_ret
      exact ⟨rfl, hB⟩

end Go.Proofs.Ytogadbckiaghcab

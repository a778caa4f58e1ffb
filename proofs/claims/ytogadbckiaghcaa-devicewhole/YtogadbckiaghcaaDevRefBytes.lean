/-
  The document's own Trim, Mix and Sector, for every text.
-/
import Derived.Test.YtogadbckiaghcaaDevBytes
import Derived.Deep.AppendLies
namespace Go.Proofs.Ytogadbckiaghcaa
open Go.RowKit Plain
set_option linter.unusedVariables false

set_option maxHeartbeats 400000 in
theorem refTrim_any (s : ByteArray) (w : World) (hs : s.size ≤ maxLen) :
    Calls Try.prog 34 #[.string s] w fun e w' => e = .returned (.string (trimS s)) ∧ w = w' := by
  unfold maxLen at hs
  go_enter Try.func34, Try.ntmps34
  go_wp2
  go_loop [3] (fun v => ∃ k : Nat, k ≤ s.size ∧ v = .int .i64 k ∧ trimN s s.size = trimN s k) (fun v => (intOf v).toNat)
  case atStart => exact ⟨s.size, by omega, rfl, rfl⟩
  case round =>
    obtain ⟨k, hk, rfl, HT⟩ := hrel
    have HT' : Hid (trimN s s.size = trimN s k) := HT
    clear HT
    match k, hk, HT' with
    | 0, hk, HT' =>
      have e0 : Hid (trimS s = ByteArray.empty) := trimS_none s HT'.out
      go_wp2
      go_ret
      exact ⟨ret_str e0.out.symm, rfl⟩
    | k + 1, hk, HT' =>
      have ek : (((k + 1 : Nat) : Int)) = (k : Int) + 1 := by omega
      rw [ek]
      by_cases hz : s[k] = 0
      · have ht : Hid (trimN s (k + 1) = trimN s k) := trimN_down s k (by omega) hz
        have hz' : ((s[k].toNat : Int) == 0) = true := by rw [hz]; rfl
        clear hz
        go_wp2
        go_round
        case rel => exact ⟨k, by omega, rfl, by rw [HT'.out, ht.out]⟩
        case measure => simp [intOf]
      · have ht : Hid (trimN s (k + 1) = k + 1) := trimN_stay s k (by omega) hz
        have hz' : ((s[k].toNat : Int) == 0) = false := by
          have : s[k].toNat ≠ 0 := fun h => hz (UInt8.toNat_inj.1 h)
          simpa using this
        clear hz
        go_wp2
        go_ret
        exact ⟨ret_str (by rw [trimS, HT'.out, ht.out]), rfl⟩

/-- The bytes of a row that the call itself owns, as a text. -/
theorem conv_own (w : World) (base g n cap : Nat) (l : List UInt8) (hl : l.length = n) (h : w.ownsRow base 5 1 (.slice (some ⟨g, 0, none⟩) n cap) n (l.map cellOf)) :
    (convert 59 9 (.slice (some ⟨g, 0, none⟩) n cap)).run Try.prog w = .ok (.string ⟨l.toArray⟩) w := by
  subst hl
  refine run_convert_bytes_back (P := Try.prog) _ 59 9 5 ⟨g, 0, none⟩ cap l Try.underlying59 Try.underlying5 Try.underlying9 fun j hj => ?_
  exact h.cells (g := g) rfl j _ (by simp [cellOf, hj])

set_option maxHeartbeats 400000 in
theorem at_any (s : ByteArray) (i : Nat) (w : World) (hs : s.size ≤ maxLen) :
    Calls Try.prog 37 #[.string s, .int .i64 i] w fun e w' => e = .returned (cellOf (byteAt s i)) ∧ w = w' := by
  unfold maxLen at hs
  by_cases h : i < s.size
  · have hb : Hid (cellOf (byteAt s i) = .int .u8 (s[i].toNat : Int)) := by
      show cellOf (byteAt s i) = _
      unfold byteAt cellOf
      rw [List.getElem?_eq_getElem (show i < s.data.toList.length from h)]
      rfl
    have h' : (i : Int) < s.size := by omega
    go_enter Try.func37, Try.ntmps37
    go_wp2
    go_ret
    exact ⟨by rw [hb.out]; rfl, rfl⟩
  · have hb : Hid (cellOf (byteAt s i) = .int .u8 0) := by
      show cellOf (byteAt s i) = _
      rw [byteAt_out (by omega)]; rfl
    have h' : ¬ (i : Int) < s.size := by omega
    go_enter Try.func37, Try.ntmps37
    go_wp2
    go_ret
    exact ⟨by rw [hb.out]; rfl, rfl⟩

theorem tmod_bit (q : Int) : (q.tmod 2 != 0) = (q % 2 != 0) := by
  have h := Int.tmod_eq_emod (a := q) (b := 2)
  by_cases h0 : q % 2 = 0
  · have : q.tmod 2 = 0 := Int.tmod_eq_zero_of_dvd (by omega)
    rw [this, h0]
  · have h1 : q.tmod 2 ≠ 0 := fun hh => h0 (by have := Int.dvd_of_tmod_eq_zero hh; omega)
    rw [show (q.tmod 2 != 0) = true by simpa using h1, show (q % 2 != 0) = true by simpa using h0]

theorem mixL_succ (o n : ByteArray) (m : Int) (i : Nat) : mixL o n m (i + 1) = mixL o n m i ++ [mixB o n m i] := by
  unfold mixL
  rw [List.range_succ, List.map_append]; rfl

theorem secL_succ (s : ByteArray) (i k : Nat) : secL s i (k + 1) = secL s i k ++ [byteAt s (512 * i + k)] := by
  unfold secL
  rw [List.range_succ, List.map_append]; rfl

set_option maxRecDepth 20000 in
set_option maxHeartbeats 1000000 in
theorem refMix_any (o n : ByteArray) (m : Int) (w : World) (ho : o.size ≤ maxLen) (hn : n.size ≤ maxLen) :
    Calls Try.prog 23 #[.string o, .string n, .int .i64 m] w fun e w' => e = .returned (.string (mixS o n m)) ∧ Below w.heap.size w w' := by
  obtain ⟨i0, hi, hz0, hz1, hz2⟩ := info_parts Try.info5
  obtain ⟨x, hx, hxs⟩ : ∃ x : ByteArray, Hid (x = (⟨(mixL o n m 4096).toArray⟩ : ByteArray)) ∧ x.size ≤ maxLen := by
    refine ⟨_, rfl, ?_⟩
    rw [size_mk, mixL_length]; unfold maxLen; omega
  have e : Hid (mixS o n m = trimS x) := by show mixS o n m = _; unfold mixS; rw [hx.out]
  go_enter Try.func23, Try.ntmps23
  go_wp2
  go_loopw [7, 8] (fun b v wr => ∃ j : Nat, j ≤ 4096 ∧ v = .int .i64 j ∧ wr.ownsRow w.heap.size 5 1 b j ((mixL o n m j).map cellOf) ∧ Below w.heap.size w wr) (fun _ v _ => 4096 - (intOf v).toNat)
  case atStart =>
    refine ⟨0, by omega, rfl, ?_, (Below.refl _ _).alloc (Nat.le_refl _) _⟩
    exact World.ownsRow_made _ _ 0 (Nat.le_refl _) (by decide) rfl
  case round =>
    obtain ⟨j, hj, rfl, hown, hbel⟩ := hrel
    by_cases hlt : j < 4096
    · have hbs := hbel.size
      have hbit : ((m / 2 ^ (j / 512)).tmod 2 != 0) = bitOn m (j / 512) := tmod_bit _
      obtain ⟨y, hy, ca⟩ : ∃ y : Int, Hid ((mixL o n m (j + 1)).map cellOf = (mixL o n m j).map cellOf ++ [.int .u8 y]) ∧ ∀ W, Calls Try.prog 37 #[.string (if bitOn m (j / 512) = true then n else o), .int .i64 j] W fun e w' => e = .returned (.int .u8 y) ∧ W = w' := by
        refine ⟨((mixB o n m j).toNat : Int), ?_, fun W => ?_⟩
        · show _ = _
          rw [mixL_succ, List.map_append]; rfl
        · have : mixB o n m j = byteAt (if bitOn m (j / 512) = true then n else o) j := by unfold mixB; split <;> rfl
          rw [this]
          exact at_any _ j W (by split; exact hn; exact ho)
      by_cases hb : bitOn m (j / 512) = true
      · rw [hb] at hbit
        rw [if_pos hb] at ca
        clear hb hx e
        go_wp2_with (first
          | (go_at_call 37; refine (ca _).mono ?_; rintro e w' ⟨rfl, rfl⟩)
          | (at_builtin; refine wpList_append_own _ rfl _ _ 59 rfl w.heap.size 5 i0 (.int .u8 0) 1 1 Try.underlying59 hi hz0 hz1 hz2 rfl (by decide) _ _ _ rfl (hown.alloc _) ⟨wr.heap.size, 0, none⟩ 1 1 [.int .u8 y] rfl rfl ?c1 ?c2 ?c3 ?c4 ?c5 ?_))
        case c1 =>
          intro j u hj
          match j, hj with
          | 0, hj => simp at hj; subst hj; simp [Addr.add]
        case c2 => intro u hu; simp at hu; subst hu; rfl
        case c3 => unfold maxLen; omega
        case c4 => omega
        case c5 => simp; omega
        · intro v' w1 hown' hgrow _
          have R2 : Below w.heap.size w w1 := (hbel.alloc (by omega) _).grown hgrow (by simp; omega) (fun k hk => (hown.lt k hk).1)
          have R : Hid (w1.ownsRow w.heap.size 5 1 v' (j + 1) ((mixL o n m (j + 1)).map cellOf)) := by show World.ownsRow _ _ _ _ _ _ _; rw [hy.out]; exact hown'
          clear hown' hgrow hown
          go_wp2
          go_roundw
          case rel => exact ⟨j + 1, by omega, by go_num, R.out, R2⟩
          case measure => simp [intOf]; omega
      · have hb' : bitOn m (j / 512) = false := by simpa using hb
        rw [hb'] at hbit
        rw [if_neg hb] at ca
        clear hb hb' hx e
        go_wp2_with (first
          | (go_at_call 37; refine (ca _).mono ?_; rintro e w' ⟨rfl, rfl⟩)
          | (at_builtin; refine wpList_append_own _ rfl _ _ 59 rfl w.heap.size 5 i0 (.int .u8 0) 1 1 Try.underlying59 hi hz0 hz1 hz2 rfl (by decide) _ _ _ rfl (hown.alloc _) ⟨wr.heap.size, 0, none⟩ 1 1 [.int .u8 y] rfl rfl ?c1 ?c2 ?c3 ?c4 ?c5 ?_))
        case c1 =>
          intro j u hj
          match j, hj with
          | 0, hj => simp at hj; subst hj; simp [Addr.add]
        case c2 => intro u hu; simp at hu; subst hu; rfl
        case c3 => unfold maxLen; omega
        case c4 => omega
        case c5 => simp; omega
        · intro v' w1 hown' hgrow _
          have R2 : Below w.heap.size w w1 := (hbel.alloc (by omega) _).grown hgrow (by simp; omega) (fun k hk => (hown.lt k hk).1)
          have R : Hid (w1.ownsRow w.heap.size 5 1 v' (j + 1) ((mixL o n m (j + 1)).map cellOf)) := by show World.ownsRow _ _ _ _ _ _ _; rw [hy.out]; exact hown'
          clear hown' hgrow hown
          go_wp2
          go_roundw
          case rel => exact ⟨j + 1, by omega, by go_num, R.out, R2⟩
          case measure => simp [intOf]; omega
    · obtain rfl : j = 4096 := by omega
      obtain ⟨g, cap, rfl, -, -⟩ := hown.form (by omega)
      have hcv := conv_own wr w.heap.size g 4096 cap _ (mixL_length o n m 4096) hown
      rw [← hx.out] at hcv
      clear hown hx
      go_wp2_with (go_at_call 34; refine (refTrim_any x _ hxs).mono ?_; rintro e w3 ⟨rfl, rfl⟩)
      go_ret
      exact ⟨ret_str e.out.symm, hbel⟩

set_option maxRecDepth 20000 in
set_option maxHeartbeats 1000000 in
theorem refSector_any (s : ByteArray) (i : Int) (w : World) (hs : s.size ≤ maxLen) :
    Calls Try.prog 25 #[.string s, .int .i64 i] w fun e w' => e = .returned (.string (sectorS s i)) ∧ Below w.heap.size w w' := by
  by_cases h0 : i < 0
  · have e : Hid (sectorS s i = ⟨#[]⟩) := by show sectorS s i = _; unfold sectorS; rw [if_neg (by omega)]
    go_enter Try.func25, Try.ntmps25
    go_wp2
    go_ret
    exact ⟨ret_str e.out.symm, Below.refl _ _⟩
  by_cases h8 : 7 < i
  · have e : Hid (sectorS s i = ⟨#[]⟩) := by show sectorS s i = _; unfold sectorS; rw [if_neg (by omega)]
    go_enter Try.func25, Try.ntmps25
    go_wp2
    go_ret
    exact ⟨ret_str e.out.symm, Below.refl _ _⟩
  obtain ⟨k, rfl⟩ : ∃ k : Nat, i = k := ⟨i.toNat, by omega⟩
  have hk : k < 8 := by omega
  obtain ⟨i0, hi, hz0, hz1, hz2⟩ := info_parts Try.info5
  obtain ⟨x, hx, hxs⟩ : ∃ x : ByteArray, Hid (x = (⟨(secL s k 512).toArray⟩ : ByteArray)) ∧ x.size ≤ maxLen := by
    refine ⟨_, rfl, ?_⟩
    rw [size_mk, secL_length]; unfold maxLen; omega
  have e : Hid (sectorS s (k : Int) = trimS x) := by show sectorS s _ = _; unfold sectorS; rw [if_pos (by omega), hx.out]; rfl
  go_enter Try.func25, Try.ntmps25
  go_wp2
  go_loopw [5, 6] (fun b v wr => ∃ j : Nat, j ≤ 512 ∧ v = .int .i64 (512 * (k : Int) + j) ∧ wr.ownsRow w.heap.size 5 1 b j ((secL s k j).map cellOf) ∧ Below w.heap.size w wr) (fun _ v _ => 8192 - (intOf v).toNat)
  case atStart =>
    refine ⟨0, by omega, by go_num, ?_, (Below.refl _ _).alloc (Nat.le_refl _) _⟩
    exact World.ownsRow_made _ _ 0 (Nat.le_refl _) (by decide) rfl
  case round =>
    obtain ⟨j, hj, rfl, hown, hbel⟩ := hrel
    by_cases hlt : j < 512
    · have hbs := hbel.size
      obtain ⟨y, hy, ca⟩ : ∃ y : Int, Hid ((secL s k (j + 1)).map cellOf = (secL s k j).map cellOf ++ [.int .u8 y]) ∧ ∀ W, Calls Try.prog 37 #[.string s, .int .i64 (512 * (k : Int) + j)] W fun e w' => e = .returned (.int .u8 y) ∧ W = w' := by
        refine ⟨((byteAt s (512 * k + j)).toNat : Int), ?_, fun W => ?_⟩
        · show _ = _
          rw [secL_succ, List.map_append]; rfl
        · have := at_any s (512 * k + j) W hs
          rw [show ((512 * k + j : Nat) : Int) = 512 * (k : Int) + j by omega] at this
          exact this
      clear hx e
      go_wp2_with (first
        | (go_at_call 37; refine (ca _).mono ?_; rintro e w' ⟨rfl, rfl⟩)
        | (at_builtin; refine wpList_append_own _ rfl _ _ 59 rfl w.heap.size 5 i0 (.int .u8 0) 1 1 Try.underlying59 hi hz0 hz1 hz2 rfl (by decide) _ _ _ rfl (hown.alloc _) ⟨wr.heap.size, 0, none⟩ 1 1 [.int .u8 y] rfl rfl ?c1 ?c2 ?c3 ?c4 ?c5 ?_))
      case c1 =>
        intro j u hj
        match j, hj with
        | 0, hj => simp at hj; subst hj; simp [Addr.add]
      case c2 => intro u hu; simp at hu; subst hu; rfl
      case c3 => unfold maxLen; omega
      case c4 => omega
      case c5 => simp; omega
      · intro v' w1 hown' hgrow _
        have R2 : Below w.heap.size w w1 := (hbel.alloc (by omega) _).grown hgrow (by simp; omega) (fun k hk => (hown.lt k hk).1)
        have R : Hid (w1.ownsRow w.heap.size 5 1 v' (j + 1) ((secL s k (j + 1)).map cellOf)) := by show World.ownsRow _ _ _ _ _ _ _; rw [hy.out]; exact hown'
        clear hown' hgrow hown
        go_wp2
        go_roundw
        case rel => exact ⟨j + 1, by omega, congrArg (Value.int .i64) (by omega), R.out, R2⟩
        case measure => simp [intOf]; omega
    · obtain rfl : j = 512 := by omega
      obtain ⟨g, cap, rfl, -, -⟩ := hown.form (by omega)
      have hcv := conv_own wr w.heap.size g 512 cap _ (secL_length s k 512) hown
      rw [← hx.out] at hcv
      clear hown hx
      go_wp2_with (go_at_call 34; refine (refTrim_any x _ hxs).mono ?_; rintro e w3 ⟨rfl, rfl⟩)
      go_ret
      exact ⟨ret_str e.out.symm, hbel⟩

end Go.Proofs.Ytogadbckiaghcaa

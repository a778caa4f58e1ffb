/-
  The document's own At, Pack, Unpack and Same.
-/
import Derived.Test.YtkfapldicjmelaaBitsUnpack
import Derived.BigQuiet
namespace Go.Proofs.Ytkfapldicjmelaa
open Go.RowKit Plain
set_option linter.unusedVariables false

set_option maxHeartbeats 400000 in
theorem at_any (a : Option Addr) (c : Nat) (l : List Bool) (i : Nat) (w : World) (hB : IsB w a c l) :
    Calls Try.prog 26 #[.slice a l.length c, .int .i64 i] w fun e w' => e = .returned (.bool (atB l i)) ∧ w = w' := by
  by_cases h : i < l.length
  · obtain ⟨q, hq⟩ : ∃ q, l[i]? = some q := ⟨_, List.getElem?_eq_getElem h⟩
    obtain ⟨b, o, rfl, hbl, hc⟩ := hB.2.2 i q hq
    rw [atB_some hq]
    obtain ⟨n, hn⟩ : ∃ n, n = l.length := ⟨_, rfl⟩
    rw [← hn] at h ⊢
    have h' : (i : Int) < n := by omega
    clear hn hq hB
    go_enter Try.func26, Try.ntmps26
    go_wp2
    go_ret
    exact ⟨rfl, rfl⟩
  · rw [atB_past (by omega)]
    obtain ⟨n, hn⟩ : ∃ n, n = l.length := ⟨_, rfl⟩
    rw [← hn] at h ⊢
    have h' : ¬ (i : Int) < n := by omega
    clear hn hB
    go_enter Try.func26, Try.ntmps26
    go_wp2
    go_ret
    exact ⟨rfl, rfl⟩

/-- The highest so many of the eight places from a place on. -/
def highB (l : List Bool) (p : Nat) : Nat → Nat
  | 0 => 0
  | t + 1 => highB l p t * 2 + bn (atB l (p + (7 - t)))

theorem highB_lt (l : List Bool) (p t : Nat) : highB l p t < 2 ^ t := by
  induction t with
  | zero => exact Nat.zero_lt_one
  | succ t ih =>
    rw [highB, Nat.pow_succ]
    have := bn_lt (atB l (p + (7 - t)))
    omega

theorem highB_low (l : List Bool) (p : Nat) : highB l p 8 = lowB l p 8 := by
  simp only [highB, lowB, Nat.sub_zero, Nat.reduceSub, Nat.reducePow]
  omega

/-- The bytes of the first so many. -/
def packR (l : List Bool) (i : Nat) : List UInt8 := (List.range i).map (byteB l)

theorem packR_length (l : List Bool) (i : Nat) : (packR l i).length = i := by simp [packR]
theorem packR_succ (l : List Bool) (i : Nat) : packR l (i + 1) = packR l i ++ [byteB l i] := by
  unfold packR; rw [List.range_succ, List.map_append]; rfl

theorem byteB_cell (l : List Bool) (i : Nat) : cellOf (byteB l i) = .int .u8 ((highB l (8 * i) 8 : Nat) : Int) := by
  unfold cellOf; rw [byteB_nat, highB_low]

/-- The bytes of a row that the call itself owns, as a text. -/
theorem conv_own (w : World) (base g n cap : Nat) (l : List UInt8) (hl : l.length = n) (h : w.ownsRow base 5 1 (.slice (some ⟨g, 0, none⟩) n cap) n (l.map cellOf)) :
    (convert 47 9 (.slice (some ⟨g, 0, none⟩) n cap)).run Try.prog w = .ok (.string ⟨l.toArray⟩) w := by
  subst hl
  refine run_convert_bytes_back (P := Try.prog) _ 47 9 5 ⟨g, 0, none⟩ cap l Try.underlying47 Try.underlying5 Try.underlying9 fun j hj => ?_
  exact h.cells (g := g) rfl j _ (by simp [cellOf, hj])

set_option maxRecDepth 20000 in
set_option maxHeartbeats 2000000 in
theorem refPack_any (a : Option Addr) (c : Nat) (l : List Bool) (w : World) (hB : IsB w a c l) (hl : l.length ≤ 4096) :
    Calls Try.prog 14 #[.slice a l.length c] w fun e w' => e = .returned (.string (packS l)) ∧ Below w.heap.size w w' := by
  obtain ⟨i0, hi, hz0, hz1, hz2⟩ := info_parts Try.info5
  obtain ⟨n, hn⟩ : ∃ n, n = l.length := ⟨_, rfl⟩
  have HB : Hid (IsB w a c l) := hB
  have HE : Hid (n = l.length) := hn
  have hnb : n ≤ 4096 := by omega
  rw [← hn]
  clear hB hn hl
  go_enter Try.func14, Try.ntmps14
  go_wp2
  go_loopw [3, 4] (fun b v wr => ∃ i : Nat, i ≤ sizeB n ∧ v = .int .i64 (8 * (i : Int)) ∧ wr.ownsRow w.heap.size 5 1 b i ((packR l i).map cellOf) ∧ (∃ g cap, b = .slice (some ⟨g, 0, none⟩) i cap) ∧ Below w.heap.size w wr) (fun _ v _ => 8192 - (intOf v).toNat)
  case atStart =>
    refine ⟨0, by omega, by go_num, ?_, ⟨_, _, rfl⟩, (Below.refl _ _).alloc (Nat.le_refl _) _⟩
    exact World.ownsRow_made _ _ 0 (Nat.le_refl _) (by decide) rfl
  case round =>
    obtain ⟨i, hil, rfl, hown, ⟨g, cap, rfl⟩, hbel⟩ := hrel
    have HO : Hid (World.ownsRow wr w.heap.size 5 1 (.slice (some ⟨g, 0, none⟩) i cap) i ((packR l i).map cellOf)) := hown
    clear hown
    by_cases hlt : 8 * i < n
    · have hlt' : 8 * (i : Int) < n := by omega
      have hbs := hbel.size
      have HBr : Hid (IsB wr a c l) := HB.out.below hbel
      go_wp2
      go_loopw [5, 6] (fun x v wq => ∃ t y : Nat, t ≤ 8 ∧ y = highB l (8 * i) t ∧ y < 256 ∧ x = .int .i64 y ∧ v = .int .i64 (7 - (t : Int)) ∧ wr = wq) (fun _ v _ => (intOf v + 1).toNat)
      case atStart => exact ⟨0, 0, by omega, rfl, by omega, by go_num, by go_num, by trivial⟩
      case round =>
        obtain ⟨t, y, ht, hy, hyb, rfl, rfl, rfl⟩ := hrel
        have HY : Hid (y = highB l (8 * i) t) := hy
        clear hy
        by_cases htl : t < 8
        · obtain ⟨q, hq⟩ : ∃ q, Hid (atB l (8 * i + (7 - t)) = q) := ⟨_, rfl⟩
          have ca : ∀ W, wr = W → Calls Try.prog 26 #[.slice a n c, .int .i64 (8 * (i : Int) + (7 - (t : Int)))] W fun e w' => e = .returned (.bool q) ∧ wr = w' := by
            rintro W rfl
            have := at_any a c l (8 * i + (7 - t)) wr HBr.out
            rw [show ((8 * i + (7 - t) : Nat) : Int) = 8 * (i : Int) + (7 - (t : Int)) by omega, hq.out, ← HE.out] at this
            exact this
          have hnx : Hid (highB l (8 * i) (t + 1) = y * 2 + bn q) := by show highB _ _ _ = _; rw [highB, hq.out, ← HY.out]
          have hnb : Hid (highB l (8 * i) (t + 1) < 256) := Nat.lt_of_lt_of_le (highB_lt l (8 * i) (t + 1)) (Nat.pow_le_pow_right (by decide) (show t + 1 ≤ 8 by omega))
          cases q with
          | true =>
            go_wp2_with (go_at_call 26; refine (ca _ rfl).mono ?_; rintro e w' ⟨rfl, rfl⟩)
            go_roundw
            case rel => exact ⟨t + 1, y * 2 + 1, by omega, hnx.out.symm, by rw [hnx.out] at hnb; exact hnb.out, by go_num, congrArg (Value.int .i64) (by omega), by trivial⟩
            case measure => simp [intOf]; omega
          | false =>
            go_wp2_with (go_at_call 26; refine (ca _ rfl).mono ?_; rintro e w' ⟨rfl, rfl⟩)
            go_roundw
            case rel => exact ⟨t + 1, y * 2, by omega, hnx.out.symm, by rw [hnx.out] at hnb; exact hnb.out, by go_num, congrArg (Value.int .i64) (by omega), by trivial⟩
            case measure => simp [intOf]; omega
        · obtain rfl : t = 8 := by omega
          have hyy : Hid ((packR l (i + 1)).map cellOf = (packR l i).map cellOf ++ [.int .u8 (y : Int)]) := by
            show _ = _
            rw [packR_succ, List.map_append, List.map_singleton, byteB_cell, ← HY.out]
          have hown := HO.out
          go_wp2_with (at_builtin; refine wpList_append_own _ rfl _ _ 47 rfl w.heap.size 5 i0 (.int .u8 0) 1 1 Try.underlying47 hi hz0 hz1 hz2 rfl (by decide) _ _ _ rfl (hown.alloc _) ⟨wr.heap.size, 0, none⟩ 1 1 [.int .u8 (y : Int)] rfl rfl ?c1 ?c2 ?c3 ?c4 ?c5 ?_)
          case c1 =>
            intro j u hj
            match j, hj with
            | 0, hj => simp at hj; subst hj; simp [Addr.add]
          case c2 => intro u hu; simp at hu; subst hu; rfl
          case c3 => unfold maxLen; omega
          case c4 => omega
          case c5 => simp; omega
          · intro v' w1 hown' hgrow _
            have R2 : Below w.heap.size w w1 := (hbel.alloc (by omega) _).grown hgrow (by simp; omega) (fun k hk => (hown.lt k hk).1)
            have R : Hid (w1.ownsRow w.heap.size 5 1 v' (i + 1) ((packR l (i + 1)).map cellOf)) := by show World.ownsRow _ _ _ _ _ _ _; rw [hyy.out]; exact hown'
            clear hown' hgrow hown
            obtain ⟨g', cap', rfl, -, -⟩ := R.out.form (by omega)
            go_wp2
            go_roundw
            case rel => exact ⟨i + 1, by unfold sizeB; omega, congrArg (Value.int .i64) (by omega), R.out, ⟨_, _, rfl⟩, R2⟩
            case measure => simp [intOf]; omega
    · have hlt' : ¬ 8 * (i : Int) < n := by omega
      obtain ⟨k, hk⟩ : ∃ k, Hid (k = sizeB n) := ⟨_, rfl⟩
      obtain rfl : i = k := by rw [hk.out]; unfold sizeB at hil ⊢; omega
      have hcv := conv_own wr w.heap.size g i cap _ (packR_length l i) HO.out
      have he : Hid ((⟨(packR l i).toArray⟩ : ByteArray) = packS l) := by
        show _ = _
        rw [hk.out, HE.out]; rfl
      rw [he.out] at hcv
      go_wp2
      go_ret
      exact ⟨rfl, hbel⟩

set_option maxHeartbeats 1000000 in
/-- SAME, at all rows. -/
theorem same_any (a a' : Option Addr) (c c' : Nat) (l m : List Bool) (w : World) (hB : IsB w a c l) (hB' : IsB w a' c' m) :
    Calls Try.prog 15 #[.slice a l.length c, .slice a' m.length c'] w fun e w' => e = .returned (.bool (decide (l = m))) ∧ Below w.heap.size w w' := by
  obtain ⟨n, hn⟩ : ∃ n, n = l.length := ⟨_, rfl⟩
  obtain ⟨n', hn'⟩ : ∃ n, n = m.length := ⟨_, rfl⟩
  have HB : Hid (IsB w a c l) := hB
  have HB' : Hid (IsB w a' c' m) := hB'
  have HE : Hid (n = l.length) := hn
  have HE' : Hid (n' = m.length) := hn'
  have hnb : n ≤ 9223372036854775807 := by have := hB.1; have := hB.2.1; unfold maxLen at *; omega
  rw [← hn, ← hn']
  clear hB hB' hn hn'
  by_cases h : n = n'
  · have h' : (n : Int) = n' := by omega
    subst h
    go_enter Try.func15, Try.ntmps15
    go_wp2
    go_loopw [13] (fun v wr => ∃ j : Nat, j ≤ n ∧ v = .int .i64 j ∧ (∀ i, i < j → l[i]? = m[i]?) ∧ Below w.heap.size w wr) (fun v _ => n - (intOf v).toNat)
    case atStart => exact ⟨0, by omega, rfl, fun i hi => by omega, Below.refl _ _⟩
    case round =>
      obtain ⟨j, hj, rfl, hs, hbel⟩ := hrel
      have HS : Hid (∀ i, i < j → l[i]? = m[i]?) := hs
      clear hs
      by_cases hlt : j < n
      · have hlt' : (j : Int) < n := by omega
        obtain ⟨q, hq⟩ : ∃ q, Hid (l[j]? = some q) := ⟨_, List.getElem?_eq_getElem (by rw [← HE.out]; exact hlt)⟩
        obtain ⟨r, hr⟩ : ∃ q, Hid (m[j]? = some q) := ⟨_, List.getElem?_eq_getElem (by rw [← HE'.out]; exact hlt)⟩
        obtain ⟨b, o, rfl, hbl, hc0⟩ := HB.out.2.2 j q hq.out
        obtain ⟨b', o', rfl, hbl', hc0'⟩ := HB'.out.2.2 j r hr.out
        have hc := cell_below hbel hc0
        have hc' := cell_below hbel hc0'
        by_cases e : q = r
        · have e1 : (!q == r) = false := by rw [e]; simp
          go_wp2
          go_region
          go_wp2
          go_roundw
          case rel =>
            refine ⟨j + 1, by omega, by go_num, fun i hi => ?_, hbel.drew⟩
            by_cases ei : i = j
            · rw [ei, hq.out, hr.out, e]
            · exact HS.out i (by omega)
          case measure => simp [intOf]; omega
        · have e1 : (!q == r) = true := by simp [e]
          have hne : Hid (decide (l = m) = false) := by
            show _ = _
            rw [decide_eq_false_iff_not]
            rintro rfl
            have := hq.out
            rw [hr.out] at this
            exact e (Option.some.inj this).symm
          go_wp2
          go_region
          go_wp2
          go_ret
          exact ⟨ret_bool hne.out.symm, hbel.drew⟩
      · obtain rfl : j = n := by omega
        have heq : Hid (decide (l = m) = true) := by
          show _ = _
          rw [decide_eq_true_eq]
          apply List.ext_getElem?
          intro i
          by_cases hi : i < j
          · exact HS.out i hi
          · rw [List.getElem?_eq_none (by rw [← HE.out]; omega), List.getElem?_eq_none (by rw [← HE'.out]; omega)]
        go_wp2
        go_ret
        exact ⟨ret_bool heq.out.symm, hbel⟩
  · have h' : ((n : Int) != n') = true := by simp; omega
    have hne : Hid (decide (l = m) = false) := by
      show _ = _
      rw [decide_eq_false_iff_not]
      rintro rfl
      exact h (HE.out.trans HE'.out.symm)
    go_enter Try.func15, Try.ntmps15
    go_wp2
    go_ret
    exact ⟨ret_bool hne.out.symm, Below.refl _ _⟩

theorem short_size {s : ByteArray} {m : Nat} : 8 * s.size < m ↔ s.size < sizeB m := by unfold sizeB; omega

theorem str_beq {a b : ByteArray} : (a.toList == b.toList) = true ↔ a = b := by
  rw [beq_iff_eq, ByteArray.toList_eq, ByteArray.toList_eq]
  exact ⟨bytes_ext, fun h => by rw [h]⟩

theorem str_eq_true {a b : ByteArray} (h : a = b) : (a.toList == b.toList) = true := str_beq.2 h
theorem str_eq_false {a b : ByteArray} (h : ¬ a = b) : (a.toList == b.toList) = false := by
  rw [Bool.eq_false_iff]; exact fun hh => h (str_beq.1 hh)
theorem str_ne_false {a b : ByteArray} (h : a = b) : (!a.toList == b.toList) = false := by rw [str_eq_true h]; rfl
theorem str_ne_true {a b : ByteArray} (h : ¬ a = b) : (!a.toList == b.toList) = true := by rw [str_eq_false h]; rfl

set_option maxRecDepth 20000 in
set_option maxHeartbeats 2000000 in
/-- The document's own UNPACK, of texts within the reach (their bits can be counted). -/
theorem refUnpack_any (s : ByteArray) (n : Int) (w : World) (hs : s.size ≤ 140737488355328) :
    Calls Try.prog 11 #[.string s, .int .i64 n] w fun e w' => ∃ a c, e = .returned (.tuple #[.slice a (unL s n).length c, .int .i64 (unE s n)]) ∧ IsB w' a c (unL s n) ∧ Below w.heap.size w w' := by
  by_cases h0 : n < 0
  · have hE : Hid (unE s n = 1) := unE_arg (by omega)
    have hL : Hid (unL s n = []) := unL_bad (by rw [hE.out]; decide)
    go_enter Try.func11, Try.ntmps11
    go_wp2
    go_ret2
    exact ⟨none, 0, by rw [hE.out, hL.out]; rfl, by rw [hL.out]; exact IsB_nil _, Below.refl _ _⟩
  by_cases h1 : 2048 < n
  · have hE : Hid (unE s n = 1) := unE_arg (by omega)
    have hL : Hid (unL s n = []) := unL_bad (by rw [hE.out]; decide)
    go_enter Try.func11, Try.ntmps11
    go_wp2
    go_ret2
    exact ⟨none, 0, by rw [hE.out, hL.out]; rfl, by rw [hL.out]; exact IsB_nil _, Below.refl _ _⟩
  obtain ⟨m, rfl⟩ : ∃ m : Nat, n = m := ⟨n.toNat, by omega⟩
  have hm : m ≤ 2048 := by omega
  by_cases h2 : 8 * s.size < m
  · have hE : Hid (unE s m = 3) := unE_short hm (short_size.1 h2)
    have hL : Hid (unL s m = []) := unL_bad (by rw [hE.out]; decide)
    have h2' : 8 * (s.size : Int) < m := by omega
    go_enter Try.func11, Try.ntmps11
    go_wp2
    go_ret2
    exact ⟨none, 0, by rw [hE.out, hL.out]; rfl, by rw [hL.out]; exact IsB_nil _, Below.refl _ _⟩
  have h2' : ¬ 8 * (s.size : Int) < m := by omega
  have h3 : Hid (¬ s.size < sizeB m) := fun h => h2 (short_size.2 h)
  obtain ⟨i0, hi, hz0, hz1, hz2⟩ := info_parts Try.info4
  go_enter Try.func11, Try.ntmps11
  go_wp2
  go_loopw [6, 7] (fun b v wr => ∃ i : Nat, i ≤ m ∧ v = .int .i64 i ∧ wr.ownsRow w.heap.size 4 1 b i ((unpackL s i).map Value.bool) ∧ (∃ g cap, b = .slice (some ⟨g, 0, none⟩) i cap) ∧ Below w.heap.size w wr) (fun _ v _ => m - (intOf v).toNat)
  case atStart =>
    refine ⟨0, by omega, by go_num, ?_, ⟨_, _, rfl⟩, (Below.refl _ _).alloc (Nat.le_refl _) _⟩
    exact World.ownsRow_made _ _ 0 (Nat.le_refl _) (by decide) rfl
  case round =>
    obtain ⟨i, hil, rfl, hown, ⟨g, cap, rfl⟩, hbel⟩ := hrel
    have HO : Hid (World.ownsRow wr w.heap.size 4 1 (.slice (some ⟨g, 0, none⟩) i cap) i ((unpackL s i).map Value.bool)) := hown
    clear hown
    by_cases hlt : i < m
    · have hlt' : (i : Int) < m := by omega
      have hbs := hbel.size
      have hi8 : i / 8 < s.size := by omega
      have hi8' : (i : Int) / 8 < s.size := by omega
      have hbit := rem_bit hi8
      obtain ⟨q, hq⟩ : ∃ q, bitAt s i = q := ⟨_, rfl⟩
      have hyy : Hid ((unpackL s (i + 1)).map Value.bool = (unpackL s i).map Value.bool ++ [.bool q]) := by
        show _ = _
        rw [unpackL_succ, List.map_append, hq]; rfl
      rw [hq] at hbit
      have hown := HO.out
      clear hq
      go_wp2_with (at_builtin; refine wpList_append_own _ rfl _ _ 22 rfl w.heap.size 4 i0 (.bool false) 1 1 Try.underlying22 hi hz0 hz1 hz2 rfl (by decide) _ _ _ rfl (hown.alloc _) ⟨wr.heap.size, 0, none⟩ 1 1 [.bool q] rfl rfl ?c1 ?c2 ?c3 ?c4 ?c5 ?_)
      case c1 =>
        intro j u hj
        match j, hj with
        | 0, hj => simp at hj; subst hj; simp [Addr.add]
      case c2 => intro u hu; simp at hu; subst hu; rfl
      case c3 => unfold maxLen; omega
      case c4 => omega
      case c5 => simp; omega
      · intro v' w1 hown' hgrow _
        have R2 : Below w.heap.size w w1 := (hbel.alloc (by omega) _).grown hgrow (by simp; omega) (fun k hk => (hown.lt k hk).1)
        have R : Hid (w1.ownsRow w.heap.size 4 1 v' (i + 1) ((unpackL s (i + 1)).map Value.bool)) := by show World.ownsRow _ _ _ _ _ _ _; rw [hyy.out]; exact hown'
        clear hown' hgrow hown
        obtain ⟨g', cap', rfl, -, -⟩ := R.out.form (by omega)
        go_wp2
        go_roundw
        case rel => exact ⟨i + 1, by omega, by go_num, R.out, ⟨_, _, rfl⟩, R2⟩
        case measure => simp [intOf]; omega
    · obtain rfl : i = m := by omega
      have hlt' : ¬ (i : Int) < i := by omega
      have hT : Hid (RowT wr g cap (unpackL s i)) := ownsRow_at (unpackL_length s i) HO.out
      obtain ⟨X, hX⟩ : ∃ X, Hid (X = packS (unpackL s i)) := ⟨_, rfl⟩
      have cp : Calls Try.prog 14 #[.slice (some ⟨g, 0, none⟩) i cap] wr fun e w' => e = .returned (.string X) ∧ Below wr.heap.size wr w' := by
        have := refPack_any _ _ _ wr hT.out.isB (by rw [unpackL_length]; omega)
        rw [unpackL_length] at this
        rw [hX.out]
        exact this
      by_cases hf : X = s
      · have hE : Hid (unE s i = 0) := unE_ok hm (by rw [← hX.out]; exact hf)
        have hL : Hid (unL s i = unpackL s i) := unL_ok hE.out
        have hf' := str_ne_false hf
        clear hf
        go_wp2_with (go_at_call 14; refine cp.mono ?_; rintro e w' ⟨rfl, hb⟩)
        go_ret2
        refine ⟨some ⟨g, 0, none⟩, cap, by rw [hE.out, hL.out, unpackL_length]; rfl, ?_, Below.tr hbel hb⟩
        rw [hL.out]
        exact hT.out.isB.below hb
      · have hE : Hid (unE s i = 4) := unE_form hm h3.out (by rw [← hX.out]; exact hf)
        have hL : Hid (unL s i = []) := unL_bad (by rw [hE.out]; decide)
        have hf' := str_ne_true hf
        clear hf
        go_wp2_with (go_at_call 14; refine cp.mono ?_; rintro e w' ⟨rfl, hb⟩)
        go_ret2
        exact ⟨none, 0, by rw [hE.out, hL.out]; rfl, by rw [hL.out]; exact IsB_nil _, Below.tr hbel hb⟩

end Go.Proofs.Ytkfapldicjmelaa

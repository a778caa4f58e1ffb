/-
  The document's own Right; whether two devices are alike.
-/
import Derived.Test.YtogadbckiaghcaaDevNew
namespace Go.Proofs.Ytogadbckiaghcaa
open Go.RowKit Plain
set_option linter.unusedVariables false

theorem okS_last (s : ByteArray) (k : Nat) (hk : s.size = k + 1) (h : s.size ≤ 4096) : okS s = ((s[k].toNat : Int) != 0) := by
  have hb : byteAt s (s.size - 1) = s[k] := by
    have e : s.size - 1 = k := by omega
    rw [e]
    unfold byteAt
    rw [List.getElem?_eq_getElem (show k < s.data.toList.length by show k < s.size; omega)]
    rfl
  rw [Bool.eq_iff_iff, okS_iff]
  unfold Even
  rw [hb]
  constructor
  · rintro ⟨_, h2⟩
    have h3 := h2 (by omega)
    have : s[k].toNat ≠ 0 := fun h => h3 (UInt8.toNat_inj.1 h)
    simpa using this
  · intro h2
    refine ⟨h, fun _ h3 => ?_⟩
    rw [h3] at h2
    exact absurd h2 (by decide)

set_option maxRecDepth 20000 in
set_option maxHeartbeats 400000 in
theorem trimmed_any (s : ByteArray) (w : World) (hs : s.size ≤ maxLen) :
    Calls Try.prog 28 #[.string s] w fun e w' => e = .returned (.bool (okS s)) ∧ w = w' := by
  have hs' : s.size ≤ 9223372036854775807 := hs
  by_cases h : s.size ≤ 4096
  · have h' : (s.size : Int) ≤ 4096 := by omega
    by_cases h0 : s.size = 0
    · have e : Hid (okS s = true) := by
        show _ = _
        rw [okS_iff]
        exact ⟨h, fun hh => by omega⟩
      have h0' : ((s.size : Int) == 0) = true := by simp [h0]
      go_enter Try.func28, Try.ntmps28
      go_wp2
      all_goals first
        | omega
        | (go_ret; exact ⟨ret_bool e.out.symm, rfl⟩)
    · obtain ⟨k, hk⟩ : ∃ k, s.size = k + 1 := ⟨s.size - 1, by omega⟩
      have e : Hid (okS s = ((s[k].toNat : Int) != 0)) := okS_last s k hk h
      have h0' : ((s.size : Int) == 0) = false := by simp [h0]
      have hk' : (s.size : Int) = (k : Int) + 1 := by omega
      go_enter Try.func28, Try.ntmps28
      go_wp2
      go_ret
      refine ⟨ret_bool ?_, rfl⟩
      rw [e.out, show (((k : Int) + 1 == 0) = false) by simp; omega]
      rfl
  · have e : Hid (okS s = false) := by
      show _ = _
      unfold okS
      rw [decide_eq_false h]; rfl
    have h' : ¬ (s.size : Int) ≤ 4096 := by omega
    go_enter Try.func28, Try.ntmps28
    go_wp2
    go_ret
    exact ⟨ret_bool e.out.symm, rfl⟩

set_option maxHeartbeats 1000000 in
theorem refRight_any (a a' : Option Addr) (c c' : Nat) (bs : List ByteArray) (ps : List (Int × ByteArray)) (w : World) (hS : IsS w a c bs) (hP : IsP w a' c' ps) :
    Calls Try.prog 14 #[.agg #[.slice a bs.length c, .slice a' ps.length c']] w fun e w' => e = .returned (.bool (rightD bs ps)) ∧ Below w.heap.size w w' := by
  have hB0 : Below w.heap.size w (w.alloc (.cells #[.slice a bs.length c, .slice a' ps.length c'] 25)) := (Below.refl _ _).alloc (Nat.le_refl _) _
  have HS : Hid (IsS _ a c bs) := hS.below hB0
  have HP : Hid (IsP _ a' c' ps) := hP.below hB0
  have hm : bs.length ≤ 9223372036854775807 := Nat.le_trans hS.1 hS.2.1
  have hm' : ps.length ≤ 9223372036854775807 := Nat.le_trans hP.1 hP.2.1
  clear hS hP
  by_cases hsz : 1 ≤ bs.length ∧ bs.length ≤ 2048 ∧ ps.length ≤ 2048
  · obtain ⟨h1, h2, h3⟩ := hsz
    have h1' : 1 ≤ (bs.length : Int) := by omega
    have h2' : (bs.length : Int) ≤ 2048 := by omega
    have h3' : (ps.length : Int) ≤ 2048 := by omega
    go_enter Try.func14, Try.ntmps14
    go_wp2
    go_loop [26] (fun v => ∃ j : Nat, j ≤ bs.length ∧ v = .int .i64 j ∧ ∀ y ∈ bs.take j, okS y = true) (fun v => bs.length - (intOf v).toNat)
    case atStart => exact ⟨0, by omega, rfl, fun y hy => by simp at hy⟩
    case round =>
      obtain ⟨j, hj, rfl, HA⟩ := hrel
      by_cases hlt : j < bs.length
      · obtain ⟨x, hx⟩ : ∃ x, bs[j]? = some x := ⟨_, List.getElem?_eq_getElem hlt⟩
        obtain ⟨b, o, rfl, hlb, hc, hxs⟩ := HS.out.2.2 j x hx
        have hA' : Hid (okS x = true → ∀ y ∈ bs.take (j + 1), okS y = true) := take_all HA hx
        have hF : Hid (okS x = false → rightD bs ps = false) := rightD_block hx
        clear HA hx hlb
        have hlt' : (j : Int) < bs.length := by omega
        cases hok : okS x with
        | true =>
          go_wp2_with (go_at_call 28; refine (trimmed_any x _ hxs).mono ?_; rw [hok]; rintro e w3 ⟨rfl, rfl⟩)
          go_round
          case rel => exact ⟨j + 1, by omega, by go_num, hA'.out hok⟩
          case measure => simp [intOf]; omega
        | false =>
          go_wp2_with (go_at_call 28; refine (trimmed_any x _ hxs).mono ?_; rw [hok]; rintro e w3 ⟨rfl, rfl⟩)
          go_ret
          exact ⟨ret_bool (hF.out hok).symm, hB0⟩
      · obtain rfl : j = bs.length := by omega
        rw [List.take_length] at HA
        have HB : Hid (∀ y ∈ bs, okS y = true) := HA
        clear HA hj hlt
        obtain ⟨W, hW⟩ : ∃ W, W = w.alloc (.cells #[.slice a bs.length c, .slice a' ps.length c'] 25) := ⟨_, rfl⟩
        go_wp2
        go_loopw [37] (fun v wr => ∃ j : Nat, j ≤ ps.length ∧ v = .int .i64 j ∧ (∀ y ∈ ps.take j, okW bs.length y = true) ∧ Below W.heap.size W wr) (fun v _ => ps.length - (intOf v).toNat)
        case atStart => exact ⟨0, by omega, rfl, fun y hy => by simp at hy, by rw [hW]; exact Below.refl _ _⟩
        case round =>
          obtain ⟨j, hj, rfl, HA, hbel⟩ := hrel
          by_cases hlt : j < ps.length
          · obtain ⟨p, hx⟩ : ∃ x, ps[j]? = some x := ⟨_, List.getElem?_eq_getElem hlt⟩
            rw [← hW] at HP hB0
            obtain ⟨b, o, rfl, hlb, hc1, hc2, hxs, hlo, hhi⟩ := HP.out.2.2 j p hx
            rw [← hbel.cell (p := ⟨b, o + j * 2, none⟩) hlb] at hc1
            rw [← hbel.cell (p := ⟨b, o + j * 2 + 1, none⟩) hlb] at hc2
            have hA' : Hid (okW bs.length p = true → ∀ y ∈ ps.take (j + 1), okW bs.length y = true) := take_all HA hx
            have hF : Hid (okW bs.length p = false → rightD bs ps = false) := rightD_write hx
            have hlt' : (j : Int) < ps.length := by omega
            have hBW := hbel.size
            have hBw : Below w.heap.size w wr := Below.tr hB0 hbel
            clear HA hx hlb HS HP hW
            by_cases hh : 0 ≤ p.1 ∧ p.1 < bs.length
            · obtain ⟨hp0, hp1⟩ := hh
              cases hok : okS p.2 with
              | true =>
                have hw1 : Hid (okW bs.length p = true) := by show _ = _; unfold okW; rw [decide_eq_true hp0, decide_eq_true hp1, hok]; rfl
                go_wp2_with (go_at_call 28; refine (trimmed_any p.2 _ hxs).mono ?_; rw [hok]; rintro e w4 ⟨rfl, rfl⟩)
                go_roundw
                case rel => exact ⟨j + 1, by omega, by go_num, hA'.out hw1.out, hbel.alloc hBW _⟩
                case measure => simp [intOf]; omega
              | false =>
                have hw1 : Hid (okW bs.length p = false) := by show _ = _; unfold okW; rw [decide_eq_true hp0, decide_eq_true hp1, hok]; rfl
                go_wp2_with (go_at_call 28; refine (trimmed_any p.2 _ hxs).mono ?_; rw [hok]; rintro e w4 ⟨rfl, rfl⟩)
                go_ret
                exact ⟨ret_bool (hF.out hw1.out).symm, hBw.alloc hBw.size _⟩
            · have hw1 : Hid (okW bs.length p = false) := by
                show _ = _
                rw [Bool.eq_false_iff]
                exact fun h => hh ((okW_iff _ _).1 h).1
              go_wp2
              all_goals first
                | omega
                | (go_ret; exact ⟨ret_bool (hF.out hw1.out).symm, hBw.alloc hBw.size _⟩)
          · obtain rfl : j = ps.length := by omega
            rw [List.take_length] at HA
            have ht : Hid (rightD bs ps = true) := (rightD_iff bs ps).2 ⟨⟨h1, h2, h3⟩, HB.out, HA⟩
            rw [← hW] at hB0
            have hBw : Below w.heap.size w wr := Below.tr hB0 hbel
            clear HA
            go_wp2
            go_ret
            exact ⟨ret_bool ht.out.symm, hBw⟩
  · have hf : Hid (rightD bs ps = false) := rightD_size hsz
    go_enter Try.func14, Try.ntmps14
    go_wp2
    all_goals first
      | (go_ret; exact ⟨ret_bool hf.out.symm, hB0⟩)
      | omega

end Go.Proofs.Ytogadbckiaghcaa

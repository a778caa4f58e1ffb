/-
  A device in memory: its blocks' texts, its writes' pairs; package device's and the document's own Right.
-/
import Derived.Test.YtcdcnonkoffbhaaDevBytes
namespace Go.Proofs.Ytcdcnonkoffbhaa
open Go.RowKit Plain
set_option linter.unusedVariables false
set_option maxRecDepth 20000

/-- A slice of writes that lies in memory. -/
def IsP (w : World) (a : Option Addr) (c : Nat) (ps : List (Int × ByteArray)) : Prop :=
  ps.length ≤ c ∧ c ≤ maxLen ∧ ∀ j p, ps[j]? = some p → ∃ b o, a = some ⟨b, o, none⟩ ∧ b < w.heap.size ∧ w.cell? ⟨b, o + j * 2, none⟩ = some (.int .i64 p.1) ∧ w.cell? ⟨b, o + j * 2 + 1, none⟩ = some (.string p.2) ∧ p.2.size ≤ maxLen ∧ -9223372036854775808 ≤ p.1 ∧ p.1 ≤ 9223372036854775807

theorem IsP.below {w w' : World} {a : Option Addr} {c : Nat} {ps : List (Int × ByteArray)} (h : IsP w a c ps) (hb : Below w.heap.size w w') : IsP w' a c ps := by
  refine ⟨h.1, h.2.1, fun j x hx => ?_⟩
  obtain ⟨b, o, ha, hlt, hc, hc2, hs⟩ := h.2.2 j x hx
  exact ⟨b, o, ha, Nat.lt_of_lt_of_le hlt hb.size, by rw [hb.cell (p := ⟨b, o + j * 2, none⟩) hlt]; exact hc, by rw [hb.cell (p := ⟨b, o + j * 2 + 1, none⟩) hlt]; exact hc2, hs⟩

/-- A device's value, and what lies behind it. -/
def devV (a : Option Addr) (n c : Nat) (a' : Option Addr) (n' c' : Nat) : Value := .agg #[.slice a n c, .slice a' n' c']

theorem hasBlock_any (a a' : Option Addr) (n c n' c' : Nat) (k : Int) (w : World) (hn : n ≤ maxLen) :
    Calls Try.prog 63 #[.agg #[.slice a n c, .slice a' n' c'], .int .i64 k] w fun e w' => e = .returned (.bool (decide (0 ≤ k) && decide (k < n))) ∧ Below w.heap.size w w' := by
  unfold maxLen at hn
  by_cases h0 : 0 ≤ k
  · go_enter Try.func63, Try.ntmps63
    go_wp2
    go_ret
    exact ⟨ret_bool (by simp [h0]), (Below.refl _ _).alloc (Nat.le_refl _) _⟩
  · go_enter Try.func63, Try.ntmps63
    go_wp2
    go_ret
    exact ⟨ret_bool (by rw [decide_eq_false (by omega : ¬ 0 ≤ k)]; rfl), (Below.refl _ _).alloc (Nat.le_refl _) _⟩

theorem trim_same (s : ByteArray) : (trimS s = s) ↔ (trimS s).size = s.size := by
  constructor
  · intro h; rw [h]
  · intro h
    rw [trimS_size] at h
    exact byteAt_ext (by rw [trimS_size, h]) fun j _ => byteAt_trim s j

theorem mayLie_any (s : ByteArray) (w : World) (hs : s.size ≤ maxLen) :
    Calls Try.prog 62 #[.string s] w fun e w' => e = .returned (.bool (okS s)) ∧ w = w' := by
  have hs' : s.size ≤ 9223372036854775807 := hs
  have hts : (trimS s).size ≤ 9223372036854775807 := Nat.le_trans (trimS_le s) hs'
  by_cases h : s.size ≤ 4096
  · have e : Hid (okS s = (((trimS s).size : Int) == (s.size : Int))) := by
      show _ = _
      unfold okS
      rw [decide_eq_true h, Bool.true_and, Bool.eq_iff_iff, decide_eq_true_eq, trim_same, beq_iff_eq]
      omega
    have h' : (s.size : Int) ≤ 4096 := by omega
    go_enter Try.func62, Try.ntmps62
    go_wp2_with (go_at_call 46; refine (trim_any s _ hs).mono ?_; rintro e w3 ⟨rfl, rfl⟩)
    go_ret
    exact ⟨ret_bool e.out.symm, rfl⟩
  · have e : Hid (okS s = false) := by
      show _ = _
      unfold okS
      rw [decide_eq_false h]; rfl
    have h' : ¬ (s.size : Int) ≤ 4096 := by omega
    go_enter Try.func62, Try.ntmps62
    go_wp2
    go_ret
    exact ⟨ret_bool e.out.symm, rfl⟩

theorem rightD_size {bs : List ByteArray} {ps : List (Int × ByteArray)} (h : ¬ (1 ≤ bs.length ∧ bs.length ≤ 2048 ∧ ps.length ≤ 2048)) : rightD bs ps = false := by
  rw [Bool.eq_false_iff]
  exact fun hr => h ((rightD_iff bs ps).1 hr).1

theorem rightD_block {bs : List ByteArray} {ps : List (Int × ByteArray)} {j : Nat} {x : ByteArray} (hj : bs[j]? = some x) (h : okS x = false) : rightD bs ps = false := by
  rw [Bool.eq_false_iff]
  intro hr
  have := ((rightD_iff bs ps).1 hr).2.1 x (List.mem_of_getElem? hj)
  rw [h] at this
  cases this

theorem rightD_write {bs : List ByteArray} {ps : List (Int × ByteArray)} {j : Nat} {p : Int × ByteArray} (hj : ps[j]? = some p) (h : okW bs.length p = false) : rightD bs ps = false := by
  rw [Bool.eq_false_iff]
  intro hr
  have := ((rightD_iff bs ps).1 hr).2.2 p (List.mem_of_getElem? hj)
  rw [h] at this
  cases this

theorem take_all {α : Type} {f : α → Bool} {l : List α} {j : Nat} {x : α} (h : ∀ y ∈ l.take j, f y = true) (hj : l[j]? = some x) (hx : f x = true) : ∀ y ∈ l.take (j + 1), f y = true := by
  intro y hy
  rw [List.take_add_one, hj, List.mem_append] at hy
  rcases hy with hy | hy
  · exact h y hy
  · simp at hy; rw [hy]; exact hx

set_option maxHeartbeats 1000000 in
theorem right_any (a a' : Option Addr) (c c' : Nat) (bs : List ByteArray) (ps : List (Int × ByteArray)) (w : World) (hS : IsS w a c bs) (hP : IsP w a' c' ps) :
    Calls Try.prog 40 #[.agg #[.slice a bs.length c, .slice a' ps.length c']] w fun e w' => e = .returned (.bool (rightD bs ps)) ∧ Below w.heap.size w w' := by
  have hB0 : Below w.heap.size w (w.alloc (.cells #[.slice a bs.length c, .slice a' ps.length c'] 48)) := (Below.refl _ _).alloc (Nat.le_refl _) _
  have HS : Hid (IsS _ a c bs) := hS.below hB0
  have HP : Hid (IsP _ a' c' ps) := hP.below hB0
  have hm : bs.length ≤ 9223372036854775807 := Nat.le_trans hS.1 hS.2.1
  have hm' : ps.length ≤ 9223372036854775807 := Nat.le_trans hP.1 hP.2.1
  clear hS hP
  by_cases hsz : 1 ≤ bs.length ∧ bs.length ≤ 2048 ∧ ps.length ≤ 2048
  · obtain ⟨h1, h2, h3⟩ := hsz
    have h1' : 1 ≤ (bs.length : Int) := by omega
    have h2' : (bs.length : Int) ≤ 2048 := by omega
    have h3' : (ps.length : Int) ≤ 2048 := by omega
    go_enter Try.func40, Try.ntmps40
    go_wp2
    go_loop [26] (fun v => ∃ j : Nat, j ≤ bs.length ∧ v = .int .i64 j ∧ ∀ y ∈ bs.take j, okS y = true) (fun v => bs.length - (intOf v).toNat)
    case atStart => exact ⟨0, by omega, rfl, fun y hy => by simp at hy⟩
    case round =>
      obtain ⟨j, hj, rfl, HA⟩ := hrel
      by_cases hlt : j < bs.length
      · obtain ⟨x, hx⟩ : ∃ x, bs[j]? = some x := ⟨_, List.getElem?_eq_getElem hlt⟩
        obtain ⟨b, o, rfl, hlb, hc, hxs⟩ := HS.out.2.2 j x hx
        have hA' : Hid (okS x = true → ∀ y ∈ bs.take (j + 1), okS y = true) := take_all HA hx
        have hF : Hid (okS x = false → rightD bs ps = false) := rightD_block hx
        clear HA hx hlb
        have hlt' : (j : Int) < bs.length := by omega
        cases hok : okS x with
        | true =>
          go_wp2_with (go_at_call 62; refine (mayLie_any x _ hxs).mono ?_; rw [hok]; rintro e w3 ⟨rfl, rfl⟩)
          go_round
          case rel => exact ⟨j + 1, by omega, by go_num, hA'.out hok⟩
          case measure => simp [intOf]; omega
        | false =>
          go_wp2_with (go_at_call 62; refine (mayLie_any x _ hxs).mono ?_; rw [hok]; rintro e w3 ⟨rfl, rfl⟩)
          go_ret
          exact ⟨ret_bool (hF.out hok).symm, hB0⟩
      · obtain rfl : j = bs.length := by omega
        rw [List.take_length] at HA
        have HB : Hid (∀ y ∈ bs, okS y = true) := HA
        clear HA hj hlt
        obtain ⟨W, hW⟩ : ∃ W, W = w.alloc (.cells #[.slice a bs.length c, .slice a' ps.length c'] 48) := ⟨_, rfl⟩
        go_wp2
        go_loopw [37] (fun v wr => ∃ j : Nat, j ≤ ps.length ∧ v = .int .i64 j ∧ (∀ y ∈ ps.take j, okW bs.length y = true) ∧ Below W.heap.size W wr) (fun v _ => ps.length - (intOf v).toNat)
        case atStart => exact ⟨0, by omega, rfl, fun y hy => by simp at hy, by rw [hW]; exact Below.refl _ _⟩
        case round =>
          obtain ⟨j, hj, rfl, HA, hbel⟩ := hrel
          by_cases hlt : j < ps.length
          · obtain ⟨p, hx⟩ : ∃ x, ps[j]? = some x := ⟨_, List.getElem?_eq_getElem hlt⟩
            rw [← hW] at HP hB0
            obtain ⟨b, o, rfl, hlb, hc1, hc2, hxs, hlo, hhi⟩ := HP.out.2.2 j p hx
            rw [← hbel.cell (p := ⟨b, o + j * 2, none⟩) hlb] at hc1
            rw [← hbel.cell (p := ⟨b, o + j * 2 + 1, none⟩) hlb] at hc2
            have hd0 : wr.cell? ⟨w.heap.size, 0, none⟩ = some (.slice a bs.length c) := by
              rw [hbel.cell (p := ⟨w.heap.size, 0, none⟩) (by rw [hW]; simp), hW]; simp
            have hd1 : wr.cell? ⟨w.heap.size, 1, none⟩ = some (.slice (some ⟨b, o, none⟩) ps.length c') := by
              rw [hbel.cell (p := ⟨w.heap.size, 1, none⟩) (by rw [hW]; simp), hW]; simp
            replace hd0 := cell_alloc hd0
            replace hd1 := cell_alloc hd1
            have hA' : Hid (okW bs.length p = true → ∀ y ∈ ps.take (j + 1), okW bs.length y = true) := take_all HA hx
            have hF : Hid (okW bs.length p = false → rightD bs ps = false) := rightD_write hx
            have hlt' : (j : Int) < ps.length := by omega
            have hBW := hbel.size
            have hBw : Below w.heap.size w wr := Below.tr hB0 hbel
            clear HA hx hlb HS HP hW
            cases hh : (decide (0 ≤ p.1) && decide (p.1 < bs.length)) with
            | true =>
              cases hok : okS p.2 with
              | true =>
                have hw1 : Hid (okW bs.length p = true) := by show _ = _; unfold okW; rw [hh, hok]; rfl
                go_wp2_with (first
                  | (go_at_call 63; refine (hasBlock_any _ _ _ _ _ _ p.1 _ hm).mono ?_; rw [hh]; rintro e w3 ⟨rfl, hb⟩; have hq : w3.cell? ⟨wr.heap.size, 1, none⟩ = some (.string p.2) := by (rw [hb.cell (p := ⟨wr.heap.size, 1, none⟩) (by simp)]; simp))
                  | (go_at_call 62; refine (mayLie_any p.2 _ hxs).mono ?_; rw [hok]; rintro e w4 ⟨rfl, rfl⟩))
                go_roundw
                case rel => exact ⟨j + 1, by omega, by go_num, hA'.out hw1.out, (hbel.alloc hBW _).trans (hb.mono (by simp; omega))⟩
                case measure => simp [intOf]; omega
              | false =>
                have hw1 : Hid (okW bs.length p = false) := by show _ = _; unfold okW; rw [hh, hok]; rfl
                go_wp2_with (first
                  | (go_at_call 63; refine (hasBlock_any _ _ _ _ _ _ p.1 _ hm).mono ?_; rw [hh]; rintro e w3 ⟨rfl, hb⟩; have hq : w3.cell? ⟨wr.heap.size, 1, none⟩ = some (.string p.2) := by (rw [hb.cell (p := ⟨wr.heap.size, 1, none⟩) (by simp)]; simp))
                  | (go_at_call 62; refine (mayLie_any p.2 _ hxs).mono ?_; rw [hok]; rintro e w4 ⟨rfl, rfl⟩))
                go_ret
                exact ⟨ret_bool (hF.out hw1.out).symm, Below.tr (hBw.alloc hBw.size _) hb⟩
            | false =>
              have hw1 : Hid (okW bs.length p = false) := by show _ = _; unfold okW; rw [hh]; rfl
              go_wp2_with (go_at_call 63; refine (hasBlock_any _ _ _ _ _ _ p.1 _ hm).mono ?_; rw [hh]; rintro e w3 ⟨rfl, hb⟩)
              go_ret
              exact ⟨ret_bool (hF.out hw1.out).symm, Below.tr (hBw.alloc hBw.size _) hb⟩
          · obtain rfl : j = ps.length := by omega
            rw [List.take_length] at HA
            have ht : Hid (rightD bs ps = true) := (rightD_iff bs ps).2 ⟨⟨h1, h2, h3⟩, HB.out, HA⟩
            rw [← hW] at hB0
            have hBw : Below w.heap.size w wr := Below.tr hB0 hbel
            clear HA
            go_wp2
            go_ret
            exact ⟨ret_bool ht.out.symm, hBw⟩
  · have hf : Hid (rightD bs ps = false) := rightD_size hsz
    go_enter Try.func40, Try.ntmps40
    go_wp2
    all_goals first
      | (go_ret; exact ⟨ret_bool hf.out.symm, hB0⟩)
      | omega

end Go.Proofs.Ytcdcnonkoffbhaa

/-
  The document's own Unpack and Like; the statements' few.
-/
import Derived.Test.YtcdcnonkoffbhaaRingReadB
import Derived.Test.YtcdcnonkoffbhaaRefGet
namespace Go.Proofs.Ytcdcnonkoffbhaa.Plain
open Go.RowKit
set_option linter.unusedVariables false

theorem st_get {s : ByteArray} {A : ChS} (h : A.e = 0) (h1 : ¬ getE s A.p 1 = 0) : (chStep s A).e = getE s A.p 1 := by
  have a : nmR s A.p A.e = 0 := by rw [nmR, if_pos h, getR, if_neg h1]
  have b : nmE s A.p A.e = getE s A.p 1 := by rw [nmE, if_pos h]
  unfold chStep
  rw [if_pos a, b]
  show txE s _ (txE s _ _) = _
  have c : ∀ p, txE s p (getE s A.p 1) = getE s A.p 1 := fun p => by rw [txE, if_neg h1]
  rw [c, c]

theorem st_form {s : ByteArray} {A : ChS} (h : A.e = 0) (h1 : getE s A.p 1 = 0) (h2 : 1 < getR s A.p 1) : (chStep s A).e = 4 := by
  have a : nmR s A.p A.e = getR s A.p 1 := by rw [nmR, if_pos h]
  unfold chStep
  rw [a, if_neg (by omega), if_neg (by omega)]

theorem st_one {s : ByteArray} {A : ChS} (h : A.e = 0) (h1 : getE s A.p 1 = 0) (h2 : getR s A.p 1 = 1) : chStep s A = ⟨cutT s (getT s A.p 1), cutE s (getT s A.p 1), A.cs ++ [(cutS s (getT s A.p 1), ⟨#[]⟩, true)]⟩ := by
  have a : nmR s A.p A.e = 1 := by rw [nmR, if_pos h, h2]
  have b : nmP s A.p A.e = getT s A.p 1 := by rw [nmP, if_pos h]
  have c : nmE s A.p A.e = 0 := by rw [nmE, if_pos h, h1]
  unfold chStep
  rw [a, if_neg (by decide), if_pos rfl, b, c, txS, txP, txE, if_pos rfl, if_pos rfl, if_pos rfl]

theorem st_zero {s : ByteArray} {A : ChS} (h : A.e = 0) (h1 : getE s A.p 1 = 0) (h2 : getR s A.p 1 = 0) : chStep s A = ⟨txP s (cutT s (getT s A.p 1)) (cutE s (getT s A.p 1)), txE s (cutT s (getT s A.p 1)) (cutE s (getT s A.p 1)), A.cs ++ [(cutS s (getT s A.p 1), txS s (cutT s (getT s A.p 1)) (cutE s (getT s A.p 1)), false)]⟩ := by
  have a : nmR s A.p A.e = 0 := by rw [nmR, if_pos h, h2]
  have b : nmP s A.p A.e = getT s A.p 1 := by rw [nmP, if_pos h]
  have c : nmE s A.p A.e = 0 := by rw [nmE, if_pos h, h1]
  have u1 : ∀ p, txS s p 0 = cutS s p := fun p => by rw [txS, if_pos rfl]
  have u2 : ∀ p, txP s p 0 = cutT s p := fun p => by rw [txP, if_pos rfl]
  have u3 : ∀ p, txE s p 0 = cutE s p := fun p => by rw [txE, if_pos rfl]
  unfold chStep
  rw [a, if_pos rfl, b, c, u1, u2, u3]

theorem unp_fail {s : ByteArray} {j : Nat} {x : Int} (h4 : s.size ≤ 480) (hj : j ≤ chM s) (he : (chSt s j).e = x) (hx : ¬ x = 0) : unpE s = x := by
  have hF : (chF s).e = x := by
    have := chSt_stuck (s := s) (j := j) (by rw [he]; exact hx) (chM s - j)
    rw [show j + (chM s - j) = chM s by omega, he] at this
    exact this
  unfold unpE
  rw [if_pos h4, if_neg (by rw [hF]; exact hx), hF]

theorem getR_pos (s : ByteArray) (p : Int) : 0 ≤ getR s p 1 := by
  rw [getR]
  split
  · exact (getV_bd s _ _).1
  · exact Int.le_refl _

end Go.Proofs.Ytcdcnonkoffbhaa.Plain
namespace Go.Proofs.Ytcdcnonkoffbhaa
open Go.RowKit Plain
set_option linter.unusedVariables false

def fewN (n : Nat) : Nat := if 30 < n ∧ n < 256 then 30 else min n 300
theorem fewN_le (n : Nat) : fewN n ≤ n ∧ fewN n ≤ 300 := by unfold fewN; split <;> omega

set_option maxHeartbeats 1000000 in
theorem few13_any (a : Option Addr) (c n : Nat) (w : World) (hnc : n ≤ c) (hc : c ≤ 9223372036854775807) :
    Calls Try.prog 17 #[.slice a n c] w fun e w' => e = .returned (.slice a (fewN n) c) ∧ w = w' := by
  by_cases h1 : 30 < n
  · have h1' : (30 : Int) < n := by omega
    by_cases h2 : n < 256
    · have h2' : (n : Int) < 256 := by omega
      rw [show fewN n = 30 by unfold fewN; rw [if_pos ⟨h1, h2⟩]]
      have h3 : 30 ≤ c := by omega
      go_enter Try.func17, Try.ntmps17
      go_wp2
      go_ret
      exact ⟨rfl, rfl⟩
    · have h2' : ¬ (n : Int) < 256 := by omega
      obtain ⟨k, hk⟩ : ∃ k, fewN n = k := ⟨_, rfl⟩
      have hm : min (n : Int) 300 = k := by rw [← hk]; unfold fewN; rw [if_neg (by omega)]; omega
      have hkc : k ≤ c := by omega
      have rm := min_run hm
      rw [hk]
      clear hk
      go_enter Try.func17, Try.ntmps17
      go_wp2
      go_ret
      exact ⟨rfl, rfl⟩
  · have h1' : ¬ (30 : Int) < n := by omega
    obtain ⟨k, hk⟩ : ∃ k, fewN n = k := ⟨_, rfl⟩
    have hm : min (n : Int) 300 = k := by rw [← hk]; unfold fewN; rw [if_neg (by omega)]; omega
    have hkc : k ≤ c := by omega
    have rm := min_run hm
    rw [hk]
    clear hk
    go_enter Try.func17, Try.ntmps17
    go_wp2
    go_ret
    exact ⟨rfl, rfl⟩

set_option maxRecDepth 20000 in
set_option maxHeartbeats 2000000 in
/-- LIKE, of a row and itself. -/
theorem ringLike_same (a a' : Option Addr) (c c' n : Nat) (cs : List Chg) (w : World) (hn : n = cs.length) (hC : IsC w a c cs) (hC' : IsC w a' c' cs) :
    Calls Try.prog 22 #[.slice a n c, .slice a' n c'] w fun e w' => e = .returned (.bool true) ∧ Below w.heap.size w w' := by
  have mn : n ≤ 9223372036854775807 := by rw [hn]; exact hC.size
  have EN : Hid (n = cs.length) := hn
  have RC : Hid (IsC w a c cs) := hC
  have RC' : Hid (IsC w a' c' cs) := hC'
  clear hn hC hC'
  go_enter Try.func22, Try.ntmps22
  go_wp2
  go_loopw [13] (fun v wr => ∃ j : Nat, j ≤ n ∧ v = .int .i64 j ∧ Below w.heap.size w wr) (fun v _ => n - (intOf v).toNat)
  case atStart => exact ⟨0, by omega, rfl, Below.refl _ _⟩
  case round =>
    obtain ⟨j, hj, rfl, HB⟩ := hrel
    by_cases hlt : j < n
    · have hlt' : (j : Int) < n := by omega
      obtain ⟨⟨k, v, g⟩, hx⟩ : ∃ x, cs[j]? = some x := ⟨_, List.getElem?_eq_getElem (by rw [← EN.out]; exact hlt)⟩
      obtain ⟨b, o, rfl, -, hc0, hc1, hc2, -, -⟩ := RC.out.2.2 j _ hx
      obtain ⟨b', o', rfl, -, hd0, hd1, hd2, -, -⟩ := RC'.out.2.2 j _ hx
      have z0 := cell_below HB hc0
      have z1 := cell_below HB hc1
      have z2 := cell_below HB hc2
      have y0 := cell_below HB hd0
      have y1 := cell_below HB hd1
      have y2 := cell_below HB hd2
      clear hc0 hc1 hc2 hd0 hd1 hd2 hx
      go_wp2
      go_region
      go_wp2
      go_roundw
      case rel => exact ⟨j + 1, by omega, by go_num, HB.drew⟩
      case measure => simp [intOf]; omega
    · obtain rfl : n = j := by omega
      have hj0 : ¬ (n : Int) < n := by omega
      go_wp2
      go_ret
      exact ⟨rfl, HB⟩

end Go.Proofs.Ytcdcnonkoffbhaa

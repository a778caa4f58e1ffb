/-
  Package alloc: making, counting, New; the statements' own alive.
-/
import Derived.Test.YtomjajmjooaegaaAllocFree
namespace Go.Proofs.Ytomjajmjooaegaa
open Go.RowKit Plain
set_option linter.unusedVariables false

set_option maxHeartbeats 1000000 in
/-- An alloc of a copy of one row and another row. -/
theorem making_any (a a' : Option Addr) (c c' n n' : Nat) (b : List Bool) (w : World) (hn : n = b.length) (hl : n ≤ 4096) (hB : IsB w a c b) :
    Calls Try.prog 28 #[.slice a n c, .slice a' n' c'] w fun e w' => ∃ a1 c1, e = .returned (.agg #[.slice a1 n c1, .slice a' n' c']) ∧ OwnT w.heap.size w' a1 c1 b ∧ Below w.heap.size w w' := by
  have hB0 : Below w.heap.size w (w.alloc (.cells #[.slice none 0 0, .slice none 0 0] 24)) := (Below.refl _ _).alloc (Nat.le_refl _) _
  have bx := box2_new w (.slice none 0 0) (.slice none 0 0) 24 rfl
  have cc := clone_any a c n b _ hn (hB.below hB0) hl
  clear hn hB
  go_enter Try.func28, Try.ntmps28
  go_wp2_with (go_at_call 29; refine cc.mono ?_; rintro e w1 ⟨a1, c1, rfl, ho, hb⟩; have HO : Hid (OwnT _ w1 a1 c1 b) := ho; replace hB0 := Below.tr hB0 hb; obtain ⟨⟨q0, q1⟩, f0, f1⟩ := bx.below hb; clear ho hb cc bx)
  refine bodyPost_ret (v := .agg #[.slice a1 n c1, .slice a' n' c']) (by simp [results, Try.results28, go_sem, q0, q1]) rfl ⟨a1, c1, rfl, ?_, below_set2 hB0 (Nat.le_refl _)⟩
  exact ((HO.out.store (by simp) _ _).store (by simp) _ _).mono (by simp)

set_option maxHeartbeats 1000000 in
theorem counting_any (a : Option Addr) (c n : Nat) (b : List Bool) (w : World) (hn : n = b.length) (hl : n ≤ 4096) (hB : IsB w a c b) :
    Calls Try.prog 23 #[.slice a n c] w fun e w' => ∃ a1 c1, e = .returned (.agg #[.slice a1 n c1, .slice a n c]) ∧ OwnT w.heap.size w' a1 c1 b ∧ Below w.heap.size w w' := by
  have hB0 : Below w.heap.size w (w.alloc (.cells #[.slice none 0 0, .slice none 0 0] 24)) := (Below.refl _ _).alloc (Nat.le_refl _) _
  have bx := box2_new w (.slice none 0 0) (.slice none 0 0) 24 rfl
  have cc := making_any a a c c n n b _ hn hl (hB.below hB0)
  clear hn hB
  go_enter Try.func23, Try.ntmps23
  go_wp2_with (go_at_call 28; refine cc.mono ?_; rintro e w1 ⟨a1, c1, rfl, ho, hb⟩; have HO : Hid (OwnT _ w1 a1 c1 b) := ho; replace hB0 := Below.tr hB0 hb; obtain ⟨⟨q0, q1⟩, f0, f1⟩ := bx.below hb; clear ho hb cc bx)
  refine bodyPost_ret (v := .agg #[.slice a1 n c1, .slice a n c]) (by simp [results, Try.results23, go_sem, q0, q1]) rfl ⟨a1, c1, rfl, ?_, below_set2 hB0 (Nat.le_refl _)⟩
  exact ((HO.out.store (by simp) _ _).store (by simp) _ _).mono (by simp)

/-- The rows of a new one, of a number that may not be, too; the error. -/
def newA (k : Int) : List Bool := if mayB k = true then newL k.toNat else []
def newE (k : Int) : Int := if mayB k = true then 0 else 1

/-- The first so many of the reserved ones used. -/
def usedL (k j : Nat) : List Bool := (List.range k).map fun i => decide (i < j)

theorem usedL_length (k j : Nat) : (usedL k j).length = k := by simp [usedL]
theorem usedL_get {k i : Nat} (j : Nat) (h : i < k) : (usedL k j)[i]? = some (decide (i < j)) := by
  unfold usedL; rw [List.getElem?_map, List.getElem?_range h]; rfl
theorem usedL_zero (k : Nat) : usedL k 0 = List.replicate k false := by
  apply List.ext_getElem?
  intro i
  by_cases h : i < k
  · rw [usedL_get 0 h, List.getElem?_replicate, if_pos h]; simp
  · rw [List.getElem?_eq_none (by rw [usedL_length]; omega), List.getElem?_eq_none (by simp; omega)]
theorem usedL_set {k j : Nat} (h : j < k) : (usedL k j).set j true = usedL k (j + 1) := by
  apply List.ext_getElem?
  intro i
  by_cases hi : i < k
  · rw [usedL_get _ hi]
    by_cases e : j = i
    · subst e
      rw [List.getElem?_set_self (by rw [usedL_length]; exact h)]
      simp
    · rw [List.getElem?_set_ne e, usedL_get _ hi, show decide (i < j + 1) = decide (i < j) from by rw [decide_eq_decide]; omega]
  · rw [List.getElem?_eq_none (by rw [List.length_set, usedL_length]; omega), List.getElem?_eq_none (by rw [usedL_length]; omega)]
theorem usedL_ten (k : Nat) : usedL k 10 = newL k := rfl

theorem mayB_no {k : Int} (h : mayB k = false) : newA k = [] ∧ newE k = 1 := by unfold newA newE; rw [h]; exact ⟨rfl, rfl⟩
theorem mayB_yes {k : Nat} (h : mayB k = true) : newA k = newL k ∧ newE k = 0 := by unfold newA newE; rw [h]; exact ⟨rfl, rfl⟩
theorem mayB_iff {k : Int} : mayB k = true ↔ 24 ≤ k ∧ k ≤ 2048 := by unfold mayB; simp

set_option maxRecDepth 20000 in
set_option maxHeartbeats 2000000 in
/-- NEW, of all numbers. -/
theorem new_any (k : Int) (w : World) :
    Calls Try.prog 8 #[.int .i64 k] w fun e w' => ∃ a1 c1 a2 c2, e = .returned (.tuple #[.agg #[.slice a1 (newA k).length c1, .slice a2 (newA k).length c2], .int .i64 (newE k)]) ∧ OwnT w.heap.size w' a1 c1 (newA k) ∧ OwnT w.heap.size w' a2 c2 (newA k) ∧ Below w.heap.size w w' := by
  have hB0 : Below w.heap.size w (w.alloc (.cells #[.slice none 0 0, .slice none 0 0] 24)) := (Below.refl _ _).alloc (Nat.le_refl _) _
  have bx := box2_new w (.slice none 0 0) (.slice none 0 0) 24 rfl
  cases hm : mayB k with
  | false =>
    obtain ⟨e1, e2⟩ := mayB_no hm
    have E1 : Hid (newA k = []) := e1
    have E2 : Hid (newE k = 1) := e2
    clear e1 e2
    obtain ⟨⟨q0, q1⟩, f0, f1⟩ := bx
    go_enter Try.func8, Try.ntmps8
    go_wp2_with (go_at_call 22; refine (mayHave_any _ _).mono ?_; rw [hm]; rintro e w' ⟨rfl, rfl⟩)
    refine bodyPost_ret (v := .tuple #[.agg #[.slice none 0 0, .slice none 0 0], .int .i64 1]) (by simp [results, Try.results8, go_sem, q0, q1]) rfl ⟨none, 0, none, 0, by rw [E1.out, E2.out]; rfl, by rw [E1.out]; exact OwnT_nil _ _, by rw [E1.out]; exact OwnT_nil _ _, hB0⟩
  | true =>
    obtain ⟨h1, h2⟩ := mayB_iff.1 hm
    obtain ⟨n, rfl⟩ : ∃ n : Nat, k = n := ⟨k.toNat, by omega⟩
    obtain ⟨e1, e2⟩ := mayB_yes hm
    have E1 : Hid (newA n = newL n) := e1
    have E2 : Hid (newE n = 0) := e2
    clear e1 e2
    have hn2 : n ≤ 2048 := by omega
    have hn1 : 24 ≤ n := by omega
    obtain ⟨Z, hmk, hZ⟩ : ∃ Z : Array Value, (∀ W : World, (Instr.makeSlice 22 (.int .i64 n) (.int .i64 n)).run Try.prog W = .ok (.slice (some ⟨W.heap.size, 0, none⟩) n n) (W.alloc (.cells Z 4))) ∧ Hid (Z = (List.replicate n (Value.bool false)).toArray) :=
      ⟨madeCells #[.bool false] n, fun W => run_make_row' (P := Try.prog) 22 4 (.bool false) 1 Try.underlying22 Try.info4 rfl .i64 .i64 n (by omega) (by omega) W, made_one _ n⟩
    obtain ⟨W0, hW0⟩ : ∃ W0, W0 = w.alloc (.cells #[.slice none 0 0, .slice none 0 0] 24) := ⟨_, rfl⟩
    have hs0 : W0.heap.size = w.heap.size + 1 := by rw [hW0]; simp
    have HR : Hid (RowT (W0.alloc (.cells Z 4)) (w.heap.size + 1) n (usedL n 0)) := by
      show RowT _ _ _ _
      rw [usedL_zero]
      exact RowT.new W0 n hZ.out hs0.symm (by unfold maxLen; omega)
    rw [← hW0] at bx hB0
    go_enter Try.func8, Try.ntmps8
    go_wp2_with (go_at_call 22; refine (mayHave_any _ _).mono ?_; rw [hm]; rintro e w' ⟨rfl, rfl⟩)
    rw [← hW0]
    go_loopw [12] (fun v wr => ∃ j : Nat, j ≤ 10 ∧ v = .int .i64 j ∧ RowT wr (w.heap.size + 1) n (usedL n j) ∧ Below W0.heap.size W0 wr) (fun v _ => 10 - (intOf v).toNat)
    case atStart => exact ⟨0, by omega, rfl, HR.out, (Below.refl _ _).alloc (Nat.le_refl _) _⟩
    case round =>
      obtain ⟨j, hj, rfl, hrow, hbel⟩ := hrel
      have HW : Hid (RowT wr (w.heap.size + 1) n (usedL n j)) := hrow
      clear hrow
      by_cases hlt : j < 10
      · have hlt' : (j : Int) < 10 := by omega
        have hjn : (j : Int) < n := by omega
        obtain ⟨hcy, hfy⟩ := HW.out.cell (usedL_get j (show j < n by omega))
        have hset : Hid (RowT (wr.setCell ⟨w.heap.size + 1, j, none⟩ (.bool true)) (w.heap.size + 1) n (usedL n (j + 1))) := by
          show RowT _ _ _ _
          rw [← usedL_set (show j < n by omega)]
          exact HW.out.set j _
        go_wp2
        go_roundw
        case rel => exact ⟨j + 1, by omega, by go_num, hset.out, hbel.setCell (p := ⟨w.heap.size + 1, j, none⟩) (by rw [hs0]; exact Nat.le_refl _) _⟩
        case measure => simp [intOf]; omega
      · obtain rfl : j = 10 := by omega
        have hR : RowT wr (w.heap.size + 1) n (newL n) := HW.out
        have cc := counting_any (some ⟨w.heap.size + 1, 0, none⟩) n n (newL n) wr (newL_length n).symm (by omega) hR.isB
        have HR2 : Hid (RowT wr (w.heap.size + 1) n (newL n)) := hR
        clear hR HW HR
        go_wp2_with (go_at_call 23; refine cc.mono ?_; rintro e w1 ⟨a1, c1, rfl, ho, hb⟩; have HO : Hid (OwnT wr.heap.size w1 a1 c1 (newL n)) := ho; have HB := Below.tr hbel hb; have HR3 : Hid (RowT w1 (w.heap.size + 1) n (newL n)) := HR2.out.below hb; obtain ⟨⟨q0, q1⟩, f0, f1⟩ := bx.below HB; clear ho hb cc)
        have hsz : w.heap.size + 1 ≤ wr.heap.size := by rw [← hs0]; exact hbel.size
        refine bodyPost_ret (v := .tuple #[.agg #[.slice a1 n c1, .slice (some ⟨w.heap.size + 1, 0, none⟩) n n], .int .i64 0]) (by simp [results, Try.results8, go_sem, q0, q1]) rfl ⟨a1, c1, some ⟨w.heap.size + 1, 0, none⟩, n, by rw [E1.out, E2.out, newL_length], ?_, ?_, below_set2 (Below.tr hB0 HB) (Nat.le_refl _)⟩
        · rw [E1.out]
          exact ((HO.out.store (by omega) _ _).store (by omega) _ _).mono (by omega)
        · rw [E1.out]
          have : OwnT (w.heap.size + 1) w1 (some ⟨w.heap.size + 1, 0, none⟩) n (newL n) := .inr ⟨_, rfl, Nat.le_refl _, HR3.out⟩
          exact ((this.store (by omega) _ _).store (by omega) _ _).mono (by omega)

theorem free_new24 : freeC (newL 24) (newL 24) = 14 := by decide +kernel
theorem right_new24 : rightA (newL 24) (newL 24) = true := newL_right (by omega) (by omega)

set_option maxHeartbeats 1000000 in
/-- The law's own alive. -/
theorem alive_any (w : World) : Calls Try.prog 11 #[] w fun e w' => e = .returned (.bool true) ∧ Below w.heap.size w w' := by
  obtain ⟨L, hL, hlen⟩ : ∃ L, L = newL 24 ∧ L.length = 24 := ⟨_, rfl, newL_length 24⟩
  have cn : Calls Try.prog 8 #[.int .i64 24] w fun e w' => ∃ a1 c1 a2 c2, e = .returned (.tuple #[.agg #[.slice a1 24 c1, .slice a2 24 c2], .int .i64 0]) ∧ IsB w' a1 c1 L ∧ IsB w' a2 c2 L ∧ Below w.heap.size w w' := by
    have hy := mayB_yes (k := 24) (by decide)
    have := new_any ((24 : Nat) : Int) w
    rw [hy.1, hy.2, ← hL, hlen] at this
    exact this.mono fun e w' ⟨a1, c1, a2, c2, h1, h2, h3, h4⟩ => ⟨a1, c1, a2, c2, h1, h2.isB, h3.isB, h4⟩
  have cr : ∀ W a1 c1 a2 c2, IsB W a1 c1 L → IsB W a2 c2 L → Calls Try.prog 12 #[.agg #[.slice a1 24 c1, .slice a2 24 c2]] W fun e w' => e = .returned (.bool true) ∧ Below W.heap.size W w' := by
    intro W a1 c1 a2 c2 h1 h2
    have := right_any a1 a2 c1 c2 24 24 L L W hlen.symm hlen.symm h1 h2
    rw [hL, right_new24] at this
    exact this
  have cf : ∀ W a1 c1 a2 c2, IsB W a1 c1 L → IsB W a2 c2 L → Calls Try.prog 14 #[.agg #[.slice a1 24 c1, .slice a2 24 c2]] W fun e w' => e = .returned (.int .i64 14) ∧ Below W.heap.size W w' := by
    intro W a1 c1 a2 c2 h1 h2
    have := free_any a1 a2 c1 c2 24 24 L L W hlen.symm hlen.symm h1 h2
    rw [hL, free_new24] at this
    exact this
  clear hL hlen
  go_enter Try.func11, Try.ntmps11
  go_wp2_with (first
    | (go_at_call 8; refine cn.mono ?_; rintro e w1 ⟨a1, c1, a2, c2, rfl, k1, k2, hb⟩; have K1 : Hid (IsB w1 a1 c1 L) := k1; have K2 : Hid (IsB w1 a2 c2 L) := k2; have HB := hb; clear hb k1 k2 cn; have hA : Below w1.heap.size w1 (w1.alloc (.cells #[.slice a1 24 c1, .slice a2 24 c2] 24)) := (Below.refl _ _).alloc (Nat.le_refl _) _; have bx := box2_new w1 (.slice a1 24 c1) (.slice a2 24 c2) 24 rfl)
    | (go_at_call 12; refine (cr _ a1 c1 a2 c2 (K1.out.below hA) (K2.out.below hA)).mono ?_; rintro e w2 ⟨rfl, hb⟩; replace hA := Below.tr hA hb; obtain ⟨⟨q0, q1⟩, -, -⟩ := bx.below hb; clear hb bx cr)
    | (go_at_call 14; refine (cf _ a1 c1 a2 c2 (K1.out.below hA) (K2.out.below hA)).mono ?_; rintro e w3 ⟨rfl, hb⟩; replace hA := Below.tr hA hb; clear hb cf))
  go_ret
  exact ⟨rfl, Below.tr HB hA⟩

end Go.Proofs.Ytomjajmjooaegaa

/-
  Package device's New, and the statements' own alive and few.
-/
import Derived.Test.YtogadbckiaghcaaDevAt
namespace Go.Proofs.Ytogadbckiaghcaa
open Go.RowKit Plain
set_option linter.unusedVariables false

theorem Try.info9 : (Try.prog.info? 9).map (fun i => (i.zero, i.size, i.bytes)) = some (some (.string ⟨#[]⟩), 1, 16) := by kernel_rfl

/-- The blocks of a new device, and the error. -/
def newL (n : Int) : List ByteArray := if 1 ≤ n ∧ n ≤ 2048 then List.replicate n.toNat ByteArray.empty else []
def newE (n : Int) : Int := if 1 ≤ n ∧ n ≤ 2048 then 0 else 1

theorem cell_lt {w : World} {p : Addr} {v : Value} (h : w.cell? p = some v) : p.block < w.heap.size := by
  refine Nat.lt_of_not_le fun hn => ?_
  unfold World.cell? at h
  rw [Array.getElem?_eq_none hn] at h
  cases h

theorem cell_below {w w' : World} {p : Addr} {v : Value} (hb : Below w.heap.size w w') (h : w.cell? p = some v) : w'.cell? p = some v := by
  rw [hb.cell (cell_lt h)]; exact h

/-- A struct of two cells that the call itself laid, behind one call more. -/
theorem box_cells {w w' : World} {v0 v1 : Value} {t : TypeId} (hb : Below (w.alloc (.cells #[v0, v1] t)).heap.size (w.alloc (.cells #[v0, v1] t)) w') :
    w'.cell? ⟨w.heap.size, 0, none⟩ = some v0 ∧ w'.cell? ⟨w.heap.size, 1, none⟩ = some v1 :=
  ⟨cell_below hb (World.cell?_alloc_at _ _ _ _ rfl), cell_below hb (World.cell?_alloc_at _ _ _ _ rfl)⟩

theorem Joins_cell (w : World) (C : Array Value) (t : TypeId) (n j : Nat) (hn : n = w.heap.size) : (w.alloc (.cells C t)).cell? ⟨n, j, none⟩ = C[j]? := by
  subst hn; exact World.cell?_alloc_mark w C t _ j

theorem IsP_nil (w : World) : IsP w none 0 [] := ⟨Nat.le_refl _, Nat.zero_le _, fun j p h => by simp at h⟩
theorem IsS_nil (w : World) : IsS w none 0 [] := ⟨Nat.le_refl _, Nat.zero_le _, fun j p h => by simp at h⟩

theorem newL_bad {n : Int} (h : ¬ (1 ≤ n ∧ n ≤ 2048)) : newL n = [] := if_neg h
theorem newE_bad {n : Int} (h : ¬ (1 ≤ n ∧ n ≤ 2048)) : newE n = 1 := if_neg h
theorem newL_ok {n : Nat} (h : 1 ≤ n ∧ n ≤ 2048) : newL n = List.replicate n ByteArray.empty := if_pos (by omega)
theorem newE_ok {n : Nat} (h : 1 ≤ n ∧ n ≤ 2048) : newE n = 0 := if_pos (by omega)

theorem IsS_new (W : World) (k : Nat) (hk : k ≤ 2048) (Z : Array Value) (hZ : Z = (List.replicate k (Value.string ⟨#[]⟩)).toArray) {g : Nat} (hg : ∀ j, W.cell? ⟨g, j, none⟩ = Z[j]?) : IsS W (some ⟨g, 0, none⟩) k (List.replicate k ByteArray.empty) := by
  refine ⟨by simp, by unfold maxLen; omega, fun j x hx => ?_⟩
  rw [List.getElem?_replicate] at hx
  split at hx
  · rename_i hj
    cases hx
    have hc : W.cell? ⟨g, j, none⟩ = some (.string ByteArray.empty) := by
      rw [hg, hZ]
      simp [hj]
      rfl
    exact ⟨g, 0, rfl, cell_lt hc, by rw [Nat.zero_add]; exact hc, Nat.zero_le _⟩
  · cases hx

set_option maxHeartbeats 400000 in
theorem new_any (n : Int) (w : World) :
    Calls Try.prog 10 #[.int .i64 n] w fun e w' => ∃ a c, e = .returned (.tuple #[.agg #[.slice a (newL n).length c, .slice none 0 0], .int .i64 (newE n)]) ∧ IsS w' a c (newL n) ∧ Below w.heap.size w w' := by
  by_cases hn : 1 ≤ n ∧ n ≤ 2048
  · obtain ⟨k, rfl⟩ : ∃ k : Nat, n = k := ⟨n.toNat, by omega⟩
    have hk : 1 ≤ k ∧ k ≤ 2048 := by omega
    rw [newL_ok hk, newE_ok hk, List.length_replicate]
    obtain ⟨Z, hmk, hZ⟩ : ∃ Z : Array Value, (∀ W : World, (Instr.makeSlice 22 (.int .i64 k) (.int .i64 k)).run Try.prog W = .ok (.slice (some ⟨W.heap.size, 0, none⟩) k k) (W.alloc (.cells Z 9))) ∧ Hid (Z = (List.replicate k (Value.string ⟨#[]⟩)).toArray) :=
      ⟨madeCells #[.string ⟨#[]⟩] k, fun W => run_make_row' (P := Try.prog) 22 9 (.string ⟨#[]⟩) 16 Try.underlying22 Try.info9 rfl .i64 .i64 k (by omega) (by omega) W, made_one _ k⟩
    obtain ⟨h1, h2⟩ := hn
    go_enter Try.func10, Try.ntmps10
    go_wp2
    refine bodyPost_ret (v := .tuple #[.agg #[.slice (some ⟨w.heap.size + 1, 0, none⟩) k k, .slice none 0 0], .int .i64 0]) (by simp [results, Try.results10, go_sem]) rfl ⟨_, _, rfl, ?_, ?_⟩
    · exact IsS_new _ k (by omega) Z hZ.out (fun j => Joins_cell _ _ _ _ j (by simp))
    · exact ((Below.refl _ _).alloc (Nat.le_refl _) _).alloc (by simp) _
  · rw [newL_bad hn, newE_bad hn]
    go_enter Try.func10, Try.ntmps10
    go_wp2
    all_goals refine bodyPost_ret (v := .tuple #[.agg #[.slice none 0 0, .slice none 0 0], .int .i64 1]) (by simp [results, Try.results10, go_sem]) rfl ⟨none, 0, rfl, IsS_nil _, (Below.refl _ _).alloc (Nat.le_refl _) _⟩

theorem right_one : rightD [ByteArray.empty] [] = true := by
  rw [rightD_iff]
  refine ⟨⟨by simp, by simp, by simp⟩, ?_, by simp⟩
  intro s hs
  simp at hs
  rw [hs, okS_iff]
  exact ⟨by decide, fun h => absurd h (by decide)⟩

set_option maxHeartbeats 400000 in
theorem alive_any (w : World) :
    Calls Try.prog 12 #[] w fun e w' => e = .returned (.bool true) ∧ Below w.heap.size w w' := by
  have hl : newL 1 = [ByteArray.empty] := rfl
  have he : newE 1 = 0 := rfl
  have c1 : ∀ W, Calls Try.prog 10 #[.int .i64 1] W fun e w' => ∃ a c, e = .returned (.tuple #[.agg #[.slice a 1 c, .slice none 0 0], .int .i64 0]) ∧ IsS w' a c [ByteArray.empty] ∧ Below W.heap.size W w' := by
    intro W
    have := new_any 1 W
    rw [hl, he] at this
    exact this
  clear hl he
  go_enter Try.func12, Try.ntmps12
  go_wp2_with (first
    | (go_at_call 10; refine (c1 _).mono ?_; rintro e w1 ⟨a, c, rfl, hS, hB⟩)
    | (go_at_call 13; refine (right_any a none c 0 [ByteArray.empty] [] _ (hS.below ((Below.refl _ _).alloc (Nat.le_refl _) _)) (IsP_nil _)).mono ?_; rw [right_one]; rintro e w2 ⟨rfl, hB2⟩))
  go_ret
  exact ⟨rfl, Below.tr (hB.alloc hB.size _) hB2⟩

/-- What checkBlock tells. -/
def checkE (bs : List ByteArray) (ps : List (Int × ByteArray)) (k : Int) : Int :=
  if rightD bs ps = true then (if (decide (0 ≤ k) && decide (k < bs.length)) = true then 0 else 30) else 1

/-- A device of few blocks and writes, or of too many. -/
def fewS (bs : List ByteArray) : List ByteArray := if 40 < bs.length ∧ bs.length ≤ 2048 then bs.take 40 else bs
def fewP (ps : List (Int × ByteArray)) : List (Int × ByteArray) := if 40 < ps.length ∧ ps.length < 2048 then ps.take 40 else ps

theorem IsS.take {w : World} {a : Option Addr} {c : Nat} {bs : List ByteArray} (h : IsS w a c bs) (n : Nat) : IsS w a c (bs.take n) := by
  refine ⟨Nat.le_trans (by rw [List.length_take]; omega) h.1, h.2.1, fun j x hx => h.2.2 j x ?_⟩
  rw [List.getElem?_take] at hx
  split at hx
  · exact hx
  · cases hx

theorem IsP.take {w : World} {a : Option Addr} {c : Nat} {ps : List (Int × ByteArray)} (h : IsP w a c ps) (n : Nat) : IsP w a c (ps.take n) := by
  refine ⟨Nat.le_trans (by rw [List.length_take]; omega) h.1, h.2.1, fun j x hx => h.2.2 j x ?_⟩
  rw [List.getElem?_take] at hx
  split at hx
  · exact hx
  · cases hx

theorem IsS.few {w : World} {a : Option Addr} {c : Nat} {bs : List ByteArray} (h : IsS w a c bs) : IsS w a c (fewS bs) := by
  unfold fewS
  split
  · exact h.take 40
  · exact h

theorem IsP.few {w : World} {a : Option Addr} {c : Nat} {ps : List (Int × ByteArray)} (h : IsP w a c ps) : IsP w a c (fewP ps) := by
  unfold fewP
  split
  · exact h.take 40
  · exact h

/-- A slice that is not empty has a place. -/
theorem IsS.some {w : World} {a : Option Addr} {c : Nat} {bs : List ByteArray} (h : IsS w a c bs) (hn : 0 < bs.length) : ∃ b o, a = some ⟨b, o, none⟩ := by
  obtain ⟨b, o, ha, _⟩ := h.2.2 0 _ (List.getElem?_eq_getElem hn)
  exact ⟨b, o, ha⟩

theorem IsP.some {w : World} {a : Option Addr} {c : Nat} {ps : List (Int × ByteArray)} (h : IsP w a c ps) (hn : 0 < ps.length) : ∃ b o, a = some ⟨b, o, none⟩ := by
  obtain ⟨b, o, ha, _⟩ := h.2.2 0 _ (List.getElem?_eq_getElem hn)
  exact ⟨b, o, ha⟩

set_option maxRecDepth 20000 in
set_option maxHeartbeats 1000000 in
theorem few_any (a a' : Option Addr) (c c' : Nat) (bs : List ByteArray) (ps : List (Int × ByteArray)) (w : World) (hS : IsS w a c bs) (hP : IsP w a' c' ps) :
    Calls Try.prog 9 #[.agg #[.slice a bs.length c, .slice a' ps.length c']] w fun e w' => e = .returned (.agg #[.slice a (fewS bs).length c, .slice a' (fewP ps).length c']) ∧ Below w.heap.size w w' := by
  have hm : bs.length ≤ 9223372036854775807 := Nat.le_trans hS.1 hS.2.1
  have hm' : ps.length ≤ 9223372036854775807 := Nat.le_trans hP.1 hP.2.1
  have hcc := hS.1
  have hcc' := hP.1
  by_cases h1 : 40 < bs.length ∧ bs.length ≤ 2048
  · obtain ⟨b, o, rfl⟩ := hS.some (by omega)
    have e1 : (fewS bs).length = 40 := by unfold fewS; rw [if_pos h1, List.length_take]; omega
    rw [e1]
    by_cases h2 : 40 < ps.length ∧ ps.length < 2048
    · obtain ⟨b', o', rfl⟩ := hP.some (by omega)
      have e2 : (fewP ps).length = 40 := by unfold fewP; rw [if_pos h2, List.length_take]; omega
      rw [e2]
      clear hS hP e1 e2
      go_enter Try.func9, Try.ntmps9
      go_wp2
      all_goals first
        | omega
        | exact bodyPost_ret (v := .agg #[.slice (some ⟨b, o, none⟩) 40 c, .slice (some ⟨b', o', none⟩) 40 c']) (by simp [results, Try.results9, go_sem]) rfl ⟨rfl, ((Below.refl _ _).alloc (Nat.le_refl _) _).alloc (by simp) _⟩
    · have e2 : fewP ps = ps := by unfold fewP; rw [if_neg h2]
      rw [e2]
      clear hS hP e1 e2
      go_enter Try.func9, Try.ntmps9
      go_wp2
      all_goals first
        | omega
        | exact bodyPost_ret (v := .agg #[.slice (some ⟨b, o, none⟩) 40 c, .slice a' ps.length c']) (by simp [results, Try.results9, go_sem]) rfl ⟨rfl, ((Below.refl _ _).alloc (Nat.le_refl _) _).alloc (by simp) _⟩
  · have e1 : fewS bs = bs := by unfold fewS; rw [if_neg h1]
    rw [e1]
    by_cases h2 : 40 < ps.length ∧ ps.length < 2048
    · obtain ⟨b', o', rfl⟩ := hP.some (by omega)
      have e2 : (fewP ps).length = 40 := by unfold fewP; rw [if_pos h2, List.length_take]; omega
      rw [e2]
      clear hS hP e1 e2
      go_enter Try.func9, Try.ntmps9
      go_wp2
      all_goals first
        | omega
        | exact bodyPost_ret (v := .agg #[.slice a bs.length c, .slice (some ⟨b', o', none⟩) 40 c']) (by simp [results, Try.results9, go_sem]) rfl ⟨rfl, ((Below.refl _ _).alloc (Nat.le_refl _) _).alloc (by simp) _⟩
    · have e2 : fewP ps = ps := by unfold fewP; rw [if_neg h2]
      rw [e2]
      clear hS hP e1 e2
      go_enter Try.func9, Try.ntmps9
      go_wp2
      all_goals first
        | omega
        | exact bodyPost_ret (v := .agg #[.slice a bs.length c, .slice a' ps.length c']) (by simp [results, Try.results9, go_sem]) rfl ⟨rfl, ((Below.refl _ _).alloc (Nat.le_refl _) _).alloc (by simp) _⟩

theorem checkBlock_any (a a' : Option Addr) (c c' : Nat) (bs : List ByteArray) (ps : List (Int × ByteArray)) (k : Int) (w : World) (hS : IsS w a c bs) (hP : IsP w a' c' ps) :
    Calls Try.prog 29 #[.agg #[.slice a bs.length c, .slice a' ps.length c'], .int .i64 k] w fun e w' => e = .returned (.int .i64 (checkE bs ps k)) ∧ Below w.heap.size w w' := by
  have hm : bs.length ≤ maxLen := Nat.le_trans hS.1 hS.2.1
  have hB0 : Below w.heap.size w (w.alloc (.cells #[.slice a bs.length c, .slice a' ps.length c'] 25)) := (Below.refl _ _).alloc (Nat.le_refl _) _
  have c1 := right_any a a' c c' bs ps _ (hS.below hB0) (hP.below hB0)
  have c2 := fun W => hasBlock_any a a' bs.length c ps.length c' k W hm
  clear hS hP hm
  cases hr : rightD bs ps with
  | false =>
    have e : Hid (checkE bs ps k = 1) := by show _ = _; unfold checkE; rw [hr]; rfl
    rw [hr] at c1
    go_enter Try.func29, Try.ntmps29
    go_wp2_with (go_at_call 13; refine c1.mono ?_; rintro e w1 ⟨rfl, hb⟩)
    go_ret
    exact ⟨by rw [e.out]; rfl, Below.tr hB0 hb⟩
  | true =>
    rw [hr] at c1
    cases hk : (decide (0 ≤ k) && decide (k < bs.length)) with
    | false =>
      have e : Hid (checkE bs ps k = 30) := by show _ = _; unfold checkE; rw [hr, hk]; rfl
      rw [hk] at c2
      go_enter Try.func29, Try.ntmps29
      go_wp2_with (first
        | (go_at_call 13; refine c1.mono ?_; rintro e w1 ⟨rfl, hb⟩; obtain ⟨hq0, hq1⟩ := box_cells hb)
        | (go_at_call 27; refine (c2 _).mono ?_; rintro e w2 ⟨rfl, hb2⟩))
      go_ret
      exact ⟨by rw [e.out]; rfl, Below.tr (Below.tr hB0 hb) hb2⟩
    | true =>
      have e : Hid (checkE bs ps k = 0) := by show _ = _; unfold checkE; rw [hr, hk]; rfl
      rw [hk] at c2
      go_enter Try.func29, Try.ntmps29
      go_wp2_with (first
        | (go_at_call 13; refine c1.mono ?_; rintro e w1 ⟨rfl, hb⟩; obtain ⟨hq0, hq1⟩ := box_cells hb)
        | (go_at_call 27; refine (c2 _).mono ?_; rintro e w2 ⟨rfl, hb2⟩))
      go_ret
      exact ⟨by rw [e.out]; rfl, Below.tr (Below.tr hB0 hb) hb2⟩

end Go.Proofs.Ytogadbckiaghcaa

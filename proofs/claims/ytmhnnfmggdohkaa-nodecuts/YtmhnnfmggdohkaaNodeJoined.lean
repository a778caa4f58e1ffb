/-
  The program's own joined rows, and the parts of a node.
-/
import Derived.Test.YtmhnnfmggdohkaaNodeBuild
import Derived.Deep.AppendLies
import Derived.Lib.AppendZeros
namespace Go.Proofs.Ytmhnnfmggdohkaa
open Go.RowKit Plain
set_option linter.unusedVariables false

theorem append_nil {w : World} (base : Nat) (t ty e : TypeId) (i : TypeInfo) (size m c : Nat) (hm : m = 0) (ht : Try.prog.underlying t = some (.slice e)) (hi : Try.prog.info? e = some i)
    (v : Value) (n : Nat) (xs : List Value) (hown : w.ownsRow base e size v n xs) :
    (Builtin.append_ #[t, t] ty #[v, .slice none m c]).run Try.prog w = .ok v w := by
  subst hm
  rcases hown.2 with ⟨rfl, rfl⟩ | ⟨g, cap, cur, rfl, _, _, hnc, _⟩
  · simp [Builtin.append_, run_underlying ht, sizeOf, typeInfo, hi, Builtin.lenOf, Builtin.firstCells]
  · simp [Builtin.append_, run_underlying ht, sizeOf, typeInfo, hi, Builtin.lenOf, Builtin.firstCells, hnc, storeCells]

theorem IsS.none {w : World} {c : Nat} {l : List ByteArray} (h : IsS w none c l) : l = [] := by
  rcases Nat.eq_zero_or_pos l.length with h0 | h0
  · exact List.length_eq_zero_iff.1 h0
  · obtain ⟨b, o, hh, _⟩ := h.2.2 0 l[0] (List.getElem?_eq_getElem h0)
    cases hh

theorem IsI.none {w : World} {c : Nat} {l : List Int} (h : IsI w none c l) : l = [] := by
  rcases Nat.eq_zero_or_pos l.length with h0 | h0
  · exact List.length_eq_zero_iff.1 h0
  · obtain ⟨b, o, hh, _⟩ := h.2.2 0 l[0] (List.getElem?_eq_getElem h0)
    cases hh

theorem grown_refl (w : World) (r : Option Nat) : w.grownBy w r := ⟨rfl, rfl, rfl, Nat.le_refl _, fun _ _ _ => rfl⟩

/-- A row of texts put behind a row of the call's own. -/
theorem append_S (W : World) (base : Nat) (v : Value) (n : Nat) (l : List ByteArray) (hown : W.ownsRow base 9 1 v n (l.map Value.string)) (hb : base ≤ W.heap.size) (a : Option Addr) (c m : Nat) (ys : List ByteArray) (hm : m = ys.length) (hY : IsS W a c ys) (hn : n + m ≤ 4096) :
    ∃ v' w', (Builtin.append_ #[22, 22] 22 #[v, .slice a m c]).run Try.prog W = .ok v' w' ∧
      w'.ownsRow base 9 1 v' (n + m) ((l ++ ys).map Value.string) ∧ W.grownBy w' v.ownBlock ∧ (v'.ownBlock = v.ownBlock ∨ v'.ownBlock = some W.heap.size) := by
  obtain ⟨i0, hi, hz0, hz1, hz2⟩ := info_parts Try.info9
  cases a with
  | none =>
    have h0 := hY.none
    subst h0
    have hm0 : m = 0 := hm
    refine ⟨v, W, append_nil base _ _ _ i0 1 m c hm0 Try.underlying22 hi _ _ _ hown, ?_, grown_refl _ _, .inl rfl⟩
    rw [hm0, List.append_nil]; exact hown
  | some ad =>
    obtain ⟨v', w', hr, h2, h3, h4, h5⟩ := run_append_own_at (P := Try.prog) W base 22 22 9 i0 _ 1 16 Try.underlying22 hi hz0 hz1 hz2 rfl (by decide) v n (l.map Value.string) hown ad m c (ys.map Value.string) (by simp [hm])
      (by
        intro j u hj
        rw [List.getElem?_map] at hj
        cases hx : ys[j]? with
        | none => rw [hx] at hj; cases hj
        | some x =>
          rw [hx] at hj
          cases hj
          obtain ⟨b, o, hh, _, hc, _⟩ := hY.2.2 j x hx
          cases hh
          rw [at_add]; exact hc)
      (fun u hu => by obtain ⟨x, _, rfl⟩ := List.mem_map.1 hu; rfl) (by unfold maxLen; omega) (by omega) hb
    exact ⟨v', w', hr, by rw [List.map_append]; exact h2, h3, h5⟩

/-- A row of numbers put behind a row of the call's own. -/
theorem append_I (W : World) (base : Nat) (v : Value) (n : Nat) (l : List Int) (hown : W.ownsRow base 3 1 v n (l.map (Value.int .i64))) (hb : base ≤ W.heap.size) (a : Option Addr) (c m : Nat) (ys : List Int) (hm : m = ys.length) (hY : IsI W a c ys) (hn : n + m ≤ 4096) :
    ∃ v' w', (Builtin.append_ #[23, 23] 23 #[v, .slice a m c]).run Try.prog W = .ok v' w' ∧
      w'.ownsRow base 3 1 v' (n + m) ((l ++ ys).map (Value.int .i64)) ∧ W.grownBy w' v.ownBlock ∧ (v'.ownBlock = v.ownBlock ∨ v'.ownBlock = some W.heap.size) := by
  obtain ⟨i0, hi, hz0, hz1, hz2⟩ := info_parts Try.info3
  cases a with
  | none =>
    have h0 := hY.none
    subst h0
    have hm0 : m = 0 := hm
    refine ⟨v, W, append_nil base _ _ _ i0 1 m c hm0 Try.underlying23 hi _ _ _ hown, ?_, grown_refl _ _, .inl rfl⟩
    rw [hm0, List.append_nil]; exact hown
  | some ad =>
    obtain ⟨v', w', hr, h2, h3, h4, h5⟩ := run_append_own_at (P := Try.prog) W base 23 23 3 i0 _ 1 8 Try.underlying23 hi hz0 hz1 hz2 rfl (by decide) v n (l.map (Value.int .i64)) hown ad m c (ys.map (Value.int .i64)) (by simp [hm])
      (by
        intro j u hj
        rw [List.getElem?_map] at hj
        cases hx : ys[j]? with
        | none => rw [hx] at hj; cases hj
        | some x =>
          rw [hx] at hj
          cases hj
          obtain ⟨b, o, hh, _, hc⟩ := hY.2.2 j x hx
          cases hh
          rw [at_add]; exact hc)
      (fun u hu => by obtain ⟨x, _, rfl⟩ := List.mem_map.1 hu; rfl) (by unfold maxLen; omega) (by omega) hb
    exact ⟨v', w', hr, by rw [List.map_append]; exact h2, h3, h5⟩

/-- Rows that lie side by side in a block. -/
def RowsS (w : World) (H : Nat) (rs : List (Option Addr × Nat × List ByteArray)) : Prop :=
  ∀ i r, rs[i]? = some r → w.cell? ⟨H, i, none⟩ = some (.slice r.1 r.2.2.length r.2.1) ∧ IsS w r.1 r.2.1 r.2.2

def flatS (rs : List (Option Addr × Nat × List ByteArray)) : List ByteArray := rs.flatMap fun r => r.2.2

theorem flatS_take {rs : List (Option Addr × Nat × List ByteArray)} {i : Nat} {r : Option Addr × Nat × List ByteArray} (h : rs[i]? = some r) : flatS (rs.take (i + 1)) = flatS (rs.take i) ++ r.2.2 := by
  unfold flatS
  rw [List.take_add_one, h, List.flatMap_append]
  simp

theorem flatS_le (rs : List (Option Addr × Nat × List ByteArray)) (i : Nat) : (flatS (rs.take i)).length ≤ (flatS rs).length := by
  have e : flatS rs = flatS (rs.take i) ++ flatS (rs.drop i) := by
    unfold flatS
    rw [← List.flatMap_append, List.take_append_drop]
  rw [e, List.length_append]; omega

set_option maxRecDepth 20000 in
set_option maxHeartbeats 1000000 in
/-- JOINED. -/
theorem joinedS_any (H k n : Nat) (rs : List (Option Addr × Nat × List ByteArray)) (w : World) (hR : RowsS w H rs) (hk : k = rs.length) (hl : (flatS rs).length ≤ 4096) (hk9 : k ≤ 9) (hn : n = (flatS rs).length) :
    Calls Try.prog 39 #[.slice (some ⟨H, 0, none⟩) k k] w fun e w' => ∃ a c, e = .returned (.slice a n c) ∧ IsS w' a c (flatS rs) ∧ From w.heap.size a ∧ Below w.heap.size w w' := by
  have HR : Hid (RowsS w H rs) := hR
  have HK : Hid (k = rs.length) := hk
  have HL : Hid ((flatS rs).length ≤ 4096) := hl
  have HN : Hid (n = (flatS rs).length) := hn
  clear hR hk hl hn
  go_enter Try.func39, Try.ntmps39
  go_wp2
  go_loopw [3, 8] (fun v i wr => ∃ j : Nat, j ≤ k ∧ i = .int .i64 j ∧ wr.ownsRow w.heap.size 9 1 v (flatS (rs.take j)).length ((flatS (rs.take j)).map Value.string) ∧ Below w.heap.size w wr) (fun _ i _ => k - (intOf i).toNat)
  case atStart => exact ⟨0, by omega, rfl, World.ownsRow_nil _ _ _ _, Below.refl _ _⟩
  case round =>
    obtain ⟨j, hj, rfl, hown, hbel⟩ := hrel
    by_cases hlt : j < k
    · have hlt' : (j : Int) < k := by omega
      obtain ⟨r, hr⟩ : ∃ r, rs[j]? = some r := ⟨_, List.getElem?_eq_getElem (by rw [← HK.out]; exact hlt)⟩
      obtain ⟨hc0, hI⟩ := HR.out j r hr
      have hc := cell_below hbel hc0
      obtain ⟨a, c, ys⟩ := r
      have hf := flatS_take hr
      have hle := flatS_le rs (j + 1)
      simp only at hc hI hf
      have hle2 := HL.out
      obtain ⟨v', w', hrun, hown', hgr, _⟩ := append_S wr w.heap.size _ _ _ hown hbel.size a c ys.length ys rfl (hI.below hbel) (by rw [hf, List.length_append] at hle; omega)
      have HO : Hid (w'.ownsRow w.heap.size 9 1 v' (flatS (rs.take (j + 1))).length ((flatS (rs.take (j + 1))).map Value.string)) := by
        show World.ownsRow _ _ _ _ _ _ _
        rw [hf, List.length_append]; exact hown'
      have HB : Hid (Below w.heap.size w w') := hbel.grown hgr hbel.size fun g hg => (hown.lt g hg).1
      clear hown hown' hgr hr hc0 hI hf hle hle2 hbel
      go_wp2_with (at_builtin; refine Lib.wpList_append_run _ rfl _ _ _ _ rfl _ _ rfl rfl _ _ hrun ?_)
      go_roundw
      case rel => exact ⟨j + 1, by omega, by go_num, HO.out, HB.out⟩
      case measure => simp [intOf]; omega
    · obtain rfl : j = k := by omega
      have ht : rs.take j = rs := List.take_of_length_le (by rw [← HK.out]; exact Nat.le_refl _)
      rw [ht] at hown
      obtain ⟨a, c, rfl, hn, hI, hF⟩ := owns_S hown (fun x hx => by
        obtain ⟨r, hr, hx⟩ := List.mem_flatMap.1 hx
        obtain ⟨i, hi⟩ := List.getElem?_of_mem hr
        obtain ⟨q, hq⟩ := List.getElem?_of_mem hx
        obtain ⟨_, _, _, _, _, hs⟩ := (HR.out i r hi).2.2.2 q x hq
        exact hs)
      have HI : Hid (IsS wr a c (flatS rs) ∧ From w.heap.size a) := ⟨hI, hF⟩
      clear hown hI hF hn ht
      rw [← HN.out]
      go_wp2
      go_ret
      exact ⟨a, c, rfl, HI.out.1, HI.out.2, hbel⟩

/-- Rows that lie side by side in a block. -/
def RowsI (w : World) (H : Nat) (rs : List (Option Addr × Nat × List Int)) : Prop :=
  ∀ i r, rs[i]? = some r → w.cell? ⟨H, i, none⟩ = some (.slice r.1 r.2.2.length r.2.1) ∧ IsI w r.1 r.2.1 r.2.2

def flatI (rs : List (Option Addr × Nat × List Int)) : List Int := rs.flatMap fun r => r.2.2

theorem flatI_take {rs : List (Option Addr × Nat × List Int)} {i : Nat} {r : Option Addr × Nat × List Int} (h : rs[i]? = some r) : flatI (rs.take (i + 1)) = flatI (rs.take i) ++ r.2.2 := by
  unfold flatI
  rw [List.take_add_one, h, List.flatMap_append]
  simp

theorem flatI_le (rs : List (Option Addr × Nat × List Int)) (i : Nat) : (flatI (rs.take i)).length ≤ (flatI rs).length := by
  have e : flatI rs = flatI (rs.take i) ++ flatI (rs.drop i) := by
    unfold flatI
    rw [← List.flatMap_append, List.take_append_drop]
  rw [e, List.length_append]; omega

set_option maxRecDepth 20000 in
set_option maxHeartbeats 1000000 in
/-- JOINED. -/
theorem joinedI_any (H k n : Nat) (rs : List (Option Addr × Nat × List Int)) (w : World) (hR : RowsI w H rs) (hk : k = rs.length) (hl : (flatI rs).length ≤ 4096) (hk9 : k ≤ 9) (hn : n = (flatI rs).length) :
    Calls Try.prog 40 #[.slice (some ⟨H, 0, none⟩) k k] w fun e w' => ∃ a c, e = .returned (.slice a n c) ∧ IsI w' a c (flatI rs) ∧ From w.heap.size a ∧ Below w.heap.size w w' := by
  have HR : Hid (RowsI w H rs) := hR
  have HK : Hid (k = rs.length) := hk
  have HL : Hid ((flatI rs).length ≤ 4096) := hl
  have HN : Hid (n = (flatI rs).length) := hn
  clear hR hk hl hn
  go_enter Try.func40, Try.ntmps40
  go_wp2
  go_loopw [3, 8] (fun v i wr => ∃ j : Nat, j ≤ k ∧ i = .int .i64 j ∧ wr.ownsRow w.heap.size 3 1 v (flatI (rs.take j)).length ((flatI (rs.take j)).map (Value.int .i64)) ∧ Below w.heap.size w wr) (fun _ i _ => k - (intOf i).toNat)
  case atStart => exact ⟨0, by omega, rfl, World.ownsRow_nil _ _ _ _, Below.refl _ _⟩
  case round =>
    obtain ⟨j, hj, rfl, hown, hbel⟩ := hrel
    by_cases hlt : j < k
    · have hlt' : (j : Int) < k := by omega
      obtain ⟨r, hr⟩ : ∃ r, rs[j]? = some r := ⟨_, List.getElem?_eq_getElem (by rw [← HK.out]; exact hlt)⟩
      obtain ⟨hc0, hI⟩ := HR.out j r hr
      have hc := cell_below hbel hc0
      obtain ⟨a, c, ys⟩ := r
      have hf := flatI_take hr
      have hle := flatI_le rs (j + 1)
      simp only at hc hI hf
      have hle2 := HL.out
      obtain ⟨v', w', hrun, hown', hgr, _⟩ := append_I wr w.heap.size _ _ _ hown hbel.size a c ys.length ys rfl (hI.below hbel) (by rw [hf, List.length_append] at hle; omega)
      have HO : Hid (w'.ownsRow w.heap.size 3 1 v' (flatI (rs.take (j + 1))).length ((flatI (rs.take (j + 1))).map (Value.int .i64))) := by
        show World.ownsRow _ _ _ _ _ _ _
        rw [hf, List.length_append]; exact hown'
      have HB : Hid (Below w.heap.size w w') := hbel.grown hgr hbel.size fun g hg => (hown.lt g hg).1
      clear hown hown' hgr hr hc0 hI hf hle hle2 hbel
      go_wp2_with (at_builtin; refine Lib.wpList_append_run _ rfl _ _ _ _ rfl _ _ rfl rfl _ _ hrun ?_)
      go_roundw
      case rel => exact ⟨j + 1, by omega, by go_num, HO.out, HB.out⟩
      case measure => simp [intOf]; omega
    · obtain rfl : j = k := by omega
      have ht : rs.take j = rs := List.take_of_length_le (by rw [← HK.out]; exact Nat.le_refl _)
      rw [ht] at hown
      obtain ⟨a, c, rfl, hn, hI, hF⟩ := owns_I hown 
      have HI : Hid (IsI wr a c (flatI rs) ∧ From w.heap.size a) := ⟨hI, hF⟩
      clear hown hI hF hn ht
      rw [← HN.out]
      go_wp2
      go_ret
      exact ⟨a, c, rfl, HI.out.1, HI.out.2, hbel⟩

end Go.Proofs.Ytmhnnfmggdohkaa

/-
  The program's own Cut of an inner node.
-/
import Derived.Test.YtmhnnfmggdohkaaNodeCutting
namespace Go.Proofs.Ytmhnnfmggdohkaa
open Go.RowKit Plain Anylast
set_option linter.unusedVariables false

/-- An inner node in a box of its own, with rows of its own, behind a line 'x := f(..)'. -/
def LaidI (V0 V : World) (g : Nat) (p : Option Addr) (q : Nat) (p' : Option Addr) (q' : Nat) (xs : List ByteArray) (ys : List Int) : Prop :=
  Box4 V g (.bool false) (.slice p 4 q) (.slice none 0 0) (.slice p' 5 q') ∧ V0.heap.size ≤ g ∧ Below V0.heap.size V0 V ∧ IsS V p q xs ∧ IsI V p' q' ys ∧ From V0.heap.size p ∧ From V0.heap.size p'

set_option maxRecDepth 20000 in
set_option maxHeartbeats 1000000 in
theorem cutInner_any (b o c b' o' c' : Nat) (a'' : Option Addr) (c'' n'' : Nat) (ks : List ByteArray) (cs : List Int) (w : World)
    (hn : 9 = ks.length) (hn'' : n'' = ([] : List ByteArray).length) (hn' : 10 = cs.length) (hK : IsS w (some ⟨b, o, none⟩) c ks) (hC : IsS w a'' c'' []) (hV : IsI w (some ⟨b', o', none⟩) c' cs) (hs : standsN false ks [] cs = true) {mid : ByteArray} (hmid : ks[4]? = some mid) :
    Calls Try.prog 24 #[.agg #[.bool false, .slice (some ⟨b, o, none⟩) 9 c, .slice a'' n'' c'', .slice (some ⟨b', o', none⟩) 10 c']] w fun x w' => ∃ p q p' q' r s r' s', x = .returned (.tuple #[.agg #[.bool false, .slice p 4 q, .slice none 0 0, .slice p' 5 q'], .string mid, .agg #[.bool false, .slice r 4 s, .slice none 0 0, .slice r' 5 s'], .int .i64 0]) ∧
      IsS w' p q (ks.take 4) ∧ IsI w' p' q' (cs.take 5) ∧ IsS w' r s (ks.drop 5) ∧ IsI w' r' s' (cs.drop 5) ∧ Below w.heap.size w w' := by
  obtain ⟨W, hW⟩ : ∃ W, W = ((w.alloc (.cells #[.bool false, .slice (some ⟨b, o, none⟩) 9 c, .slice a'' n'' c'', .slice (some ⟨b', o', none⟩) 10 c'] 25)).alloc (.cells #[.bool false, .slice none 0 0, .slice none 0 0, .slice none 0 0] 25)).alloc (.cells #[.bool false, .slice none 0 0, .slice none 0 0, .slice none 0 0] 25) := ⟨_, rfl⟩
  have A1 : Box4 W w.heap.size (.bool false) (.slice (some ⟨b, o, none⟩) 9 c) (.slice a'' n'' c'') (.slice (some ⟨b', o', none⟩) 10 c') := by rw [hW]; exact ((box4_new _ _ _ _ _ _ rfl).alloc _).alloc _
  have A2 : Box4 W (w.heap.size + 1) (.bool false) (.slice none 0 0) (.slice none 0 0) (.slice none 0 0) := by rw [hW]; exact (box4_new _ _ _ _ _ _ (by simp)).alloc _
  have A4 : Box4 W (w.heap.size + 2) (.bool false) (.slice none 0 0) (.slice none 0 0) (.slice none 0 0) := by rw [hW]; exact box4_new _ _ _ _ _ _ (by simp)
  have HB : Below w.heap.size w W := by rw [hW]; exact (((Below.refl _ _).alloc (Nat.le_refl _) _).alloc (by simp) _).alloc (by simp; omega) _
  have c1 : ∀ V, Below w.heap.size w V → Calls Try.prog 31 #[.agg #[.bool false, .slice (some ⟨b, o, none⟩) 9 c, .slice a'' n'' c'', .slice (some ⟨b', o', none⟩) 10 c']] V fun e w' => e = .returned (.bool true) ∧ Below V.heap.size V w' := fun V h => by have := mayStand_any false (some ⟨b, o, none⟩) a'' (some ⟨b', o', none⟩) c c'' c' 9 n'' 10 ks [] cs V hn hn'' hn' (hK.below h) (hC.below h) (hV.below h); rw [hs] at this; exact this
  have cP : ∀ V, Below w.heap.size w V → Calls Try.prog 42 #[.slice (some ⟨b, o, none⟩) 4 c, .slice (some ⟨b', o', none⟩) 5 c'] V fun e w' => ∃ p q p' q', e = .returned (.agg #[.bool false, .slice p 4 q, .slice none 0 0, .slice p' 5 q']) ∧ IsS w' p q (ks.take 4) ∧ IsI w' p' q' (cs.take 5) ∧ From V.heap.size p ∧ From V.heap.size p' ∧ Below V.heap.size V w' := fun V h => innerPart_any _ _ c c' 4 5 (ks.take 4) (cs.take 5) V (by rw [List.length_take]; omega) (by rw [List.length_take]; omega) ((hK.take 4).below h) ((hV.take 5).below h) (by omega) (by omega)
  have cQ : ∀ V, Below w.heap.size w V → Calls Try.prog 42 #[.slice (some ⟨b, o + 5, none⟩) 4 (c - 5), .slice (some ⟨b', o' + 5, none⟩) 5 (c' - 5)] V fun e w' => ∃ p q p' q', e = .returned (.agg #[.bool false, .slice p 4 q, .slice none 0 0, .slice p' 5 q']) ∧ IsS w' p q (ks.drop 5) ∧ IsI w' p' q' (cs.drop 5) ∧ From V.heap.size p ∧ From V.heap.size p' ∧ Below V.heap.size V w' := fun V h => innerPart_any _ _ _ _ 4 5 (ks.drop 5) (cs.drop 5) V (by rw [List.length_drop]; omega) (by rw [List.length_drop]; omega) ((isS_drop hK 5 (by omega)).below h) ((isI_drop hV 5 (by omega)).below h) (by omega) (by omega)
  obtain ⟨_, _, hbo, hbl, hcm, hms⟩ := hK.2.2 4 mid hmid
  cases hbo
  have hc9 : 9 ≤ c := by rw [hn]; exact hK.1
  have hc9' : 10 ≤ c' := by rw [hn']; exact hV.1
  have hcM : c ≤ 9223372036854775807 := hK.2.1
  have hcM' : c' ≤ 9223372036854775807 := hV.2.1
  generalize ks.take 4 = K1 at *
  generalize ks.drop 5 = K2 at *
  generalize cs.take 5 = X1 at *
  generalize cs.drop 5 = X2 at *
  have hcm0 := cell_below HB hcm
  clear hn hn' hn'' hK hV hC hs hmid hcm
  obtain ⟨⟨q0, q1, q2, q3⟩, -⟩ := id A1
  have i1 : (4 : Int) ≤ c := by omega
  have i2 : (5 : Int) ≤ c' := by omega
  have i1' : (5 : Int) ≤ c := by omega
  have i3 : 5 < c := by omega
  have i4 : 5 < c' := by omega
  have i5 : ¬ c = 5 := by omega
  have i6 : ¬ c' = 5 := by omega
  have i7 : 4 < c := by omega
  go_enter Try.func24, Try.ntmps24
  go_wp2_with (go_at_call 31; rw [← hW]; refine (c1 _ HB).mono ?_; rintro y w1 ⟨rfl, hb⟩; replace HB := Below.tr HB hb; replace A1 := A1.below hb; replace A2 := A2.below hb; replace A4 := A4.below hb; replace hcm0 := cell_below hb hcm0; clear q0 q1 q2 q3; obtain ⟨⟨q0, q1, q2, q3⟩, -⟩ := id A1; clear hb)
  obtain ⟨V0, hV0⟩ : ∃ X, X = w1.drew := ⟨_, rfl⟩
  replace HB : Below w.heap.size w V0 := by rw [hV0]; exact HB.drew
  replace A1 : Box4 V0 w.heap.size (.bool false) (.slice (some ⟨b, o, none⟩) 9 c) (.slice a'' n'' c'') (.slice (some ⟨b', o', none⟩) 10 c') := by rw [hV0]; exact A1.drew
  replace A2 : Box4 V0 (w.heap.size + 1) (.bool false) (.slice none 0 0) (.slice none 0 0) (.slice none 0 0) := by rw [hV0]; exact A2.drew
  replace A4 : Box4 V0 (w.heap.size + 2) (.bool false) (.slice none 0 0) (.slice none 0 0) (.slice none 0 0) := by rw [hV0]; exact A4.drew
  clear q0 q1 q2 q3
  obtain ⟨⟨q0, q1, q2, q3⟩, -⟩ := id A1
  have HV0 : Hid (V0 = w1.drew) := hV0
  clear hV0
  refine (fun (key : Hid (∀ V g p q p' q', LaidI V0 V g p q p' q' K1 X1 → (?propV0 : World → Nat → Option Addr → Nat → Option Addr → Nat → Prop) V g p q p' q')) => ?regV0) ?kontV0
  case regV0 =>
    refine wp_region_noPanic ?_
    refine wp_region_held_drew (S := fun V => V.cell? ⟨w.heap.size, 1, none⟩ = some (.slice (some ⟨b, o, none⟩) 9 c) ∧ V.cell? ⟨w.heap.size, 3, none⟩ = some (.slice (some ⟨b', o', none⟩) 10 c')) (by kernel_rfl) (by rw [← HV0.out]; exact ⟨q1, q3⟩) (fun hHeld => ?_)
    rw [← HV0.out] at hHeld ⊢
    refine take_at (i := 0) (v := ?_) rfl (by kernel_rfl) (by kernel_rfl) (by kernel_rfl) (fun _ _ _ h => h) (Or.inl ⟨by rfl, ?_⟩) (by assumption) ?_
    rotate_left 1
    · (intro w hSw; (try dsimp only at hSw); go_simp; (try with_reducible rfl))
    try simp only [Act.put, List.setIfInBounds_toArray, List.set_cons_zero, List.set_cons_succ]
    refine take_at (i := 1) (v := ?_) rfl (by kernel_rfl) (by kernel_rfl) (by kernel_rfl) (fun _ _ _ h => h) (Or.inl ⟨by rfl, ?_⟩) (by assumption) ?_
    rotate_left 1
    · (intro w hSw; (try dsimp only at hSw); go_simp; (try with_reducible rfl))
    try simp only [Act.put, List.setIfInBounds_toArray, List.set_cons_zero, List.set_cons_succ]
    refine take_at (i := 2) (v := ?_) rfl (by kernel_rfl) (by kernel_rfl) (by kernel_rfl) (fun _ _ _ h => h) (Or.inl ⟨by rfl, ?_⟩) (by assumption) ?_
    rotate_left 1
    · (intro w hSw; (try dsimp only at hSw); go_simp; (try with_reducible rfl))
    try simp only [Act.put, List.setIfInBounds_toArray, List.set_cons_zero, List.set_cons_succ]
    refine take_at (i := 3) (v := ?_) rfl (by kernel_rfl) (by kernel_rfl) (by kernel_rfl) (fun _ _ _ h => h) (Or.inl ⟨by rfl, ?_⟩) (by assumption) ?_
    rotate_left 1
    · (intro w hSw; (try dsimp only at hSw); go_simp; (try with_reducible rfl))
    try simp only [Act.put, List.setIfInBounds_toArray, List.set_cons_zero, List.set_cons_succ]
    refine take_at (i := 4) (v := ?_) rfl (by kernel_rfl) (by kernel_rfl) (by kernel_rfl) (fun _ _ _ h => h) (Or.inl ⟨by rfl, ?_⟩) (by assumption) ?_
    rotate_left 1
    · (intro w hSw; (try dsimp only at hSw); go_simp; (try with_reducible rfl))
    try simp only [Act.put, List.setIfInBounds_toArray, List.set_cons_zero, List.set_cons_succ]
    refine take_at (i := 5) (v := ?_) rfl (by kernel_rfl) (by kernel_rfl) (by kernel_rfl) (fun _ _ _ h => h) (Or.inl ⟨by rfl, ?_⟩) (by assumption) ?_
    rotate_left 1
    · (intro w hSw; (try dsimp only at hSw); go_simp; (try with_reducible rfl))
    try simp only [Act.put, List.setIfInBounds_toArray, List.set_cons_zero, List.set_cons_succ]
    refine wpAnyH_ready (rs := [6, 7]) (by kernel_rfl) (by simp) ?_
    refine cons_at (i := 6) rfl (fun K hK => ?callFirstV0) (cons_at (i := 7) rfl (fun K hK => ?allocFirstV0) AllReadyH.nil)
    case callFirstV0 =>
      go_simp
      go_at_call 42
      refine (cP _ HB).mono ?_
      rintro y u ⟨p, q, p', q', rfl, k1, k2, j1, j2, hb⟩
      have s1 := cell_below hb q1
      have s2 := cell_below hb q3
      refine hK.out _ _ ?_ (fun hHeld2 => ?_)
      · exact ⟨s1, s2⟩
      clear hK K
      try simp only [Act.put, List.setIfInBounds_toArray, List.set_cons_zero, List.set_cons_succ]
      refine wpAnyH_ready (rs := [7]) (by kernel_rfl) (by simp) ?_
      refine cons_at (i := 7) rfl (fun K hK => ?_) AllReadyH.nil
      go_simp
      refine hK.out _ _ ?_ (fun hHeld3 => ?_)
      · exact ⟨cell_alloc s1 _, cell_alloc s2 _⟩
      clear hK K
      try simp only [Act.put, List.setIfInBounds_toArray, List.set_cons_zero, List.set_cons_succ]
      refine wpAnyH_ready (rs := [8]) (by kernel_rfl) (by simp) ?_
      refine cons_at (i := 8) rfl (fun K hK => ?_) AllReadyH.nil
      go_simp
      have hA := (Below.refl u.heap.size u).alloc (Nat.le_refl _) (.cells #[.bool false, .slice p 4 q, .slice none 0 0, .slice p' 5 q'] 25)
      have F : LaidI V0 (u.alloc (.cells #[.bool false, .slice p 4 q, .slice none 0 0, .slice p' 5 q'] 25)) u.heap.size p q p' q' K1 X1 := ⟨box4_new _ _ _ _ _ _ rfl, hb.size, hb.alloc hb.size _, k1.below hA, k2.below hA, j1, j2⟩
      refine hK.out _ _ ?_ (fun hHeld4 => ?_)
      · exact ⟨cell_alloc s1 _, cell_alloc s2 _⟩
      clear hK K
      try simp only [Act.put, List.setIfInBounds_toArray, List.set_cons_zero, List.set_cons_succ]
      refine wpAnyH_done (by kernel_rfl) ?_ _
      refine NoPanic.normal ?_
      clear hHeld hHeld2 hHeld3 hHeld4 hA
      generalize u.alloc (.cells #[.bool false, .slice p 4 q, .slice none 0 0, .slice p' 5 q'] 25) = V at F ⊢
      generalize u.heap.size = g at F ⊢
      exact key.out V g p q p' q' F
    case allocFirstV0 =>
      go_simp
      refine hK.out _ _ ?_ (fun hHeld2 => ?_)
      · exact ⟨cell_alloc q1 _, cell_alloc q3 _⟩
      clear hK K
      try simp only [Act.put, List.setIfInBounds_toArray, List.set_cons_zero, List.set_cons_succ]
      refine wpAnyH_ready (rs := [6]) (by kernel_rfl) (by simp) ?_
      refine cons_at (i := 6) rfl (fun K hK => ?_) AllReadyH.nil
      go_simp
      go_at_call 42
      have hA := (Below.refl V0.heap.size V0).alloc (Nat.le_refl _) (.cells #[.bool false, .slice none 0 0, .slice none 0 0, .slice none 0 0] 25)
      have bZ := box4_new V0 (.bool false) (.slice none 0 0) (.slice none 0 0) (.slice none 0 0) 25 rfl
      refine (cP _ (Below.tr HB hA)).mono ?_
      rintro y u ⟨p, q, p', q', rfl, k1, k2, j1, j2, hb⟩
      have s1 := cell_below hb (cell_alloc q1 _)
      have s2 := cell_below hb (cell_alloc q3 _)
      replace bZ := bZ.below hb
      obtain ⟨⟨z0, z1, z2, z3⟩, y0, y1, y2, y3⟩ := id bZ
      refine hK.out _ _ ?_ (fun hHeld3 => ?_)
      · exact ⟨s1, s2⟩
      clear hK K
      try simp only [Act.put, List.setIfInBounds_toArray, List.set_cons_zero, List.set_cons_succ]
      refine wpAnyH_ready (rs := [8]) (by kernel_rfl) (by simp) ?_
      refine cons_at (i := 8) rfl (fun K hK => ?_) AllReadyH.nil
      go_simp
      have T4 := turns_put4 u V0.heap.size (.bool false) (.slice p 4 q) (.slice none 0 0) (.slice p' 5 q')
      have hlt : w.heap.size < V0.heap.size := A1.lt
      have F : LaidI V0 ((((u.setCell ⟨V0.heap.size, 0, none⟩ (.bool false)).setCell ⟨V0.heap.size, 1, none⟩ (.slice p 4 q)).setCell ⟨V0.heap.size, 2, none⟩ (.slice none 0 0)).setCell ⟨V0.heap.size, 3, none⟩ (.slice p' 5 q')) V0.heap.size p q p' q' K1 X1 :=
        ⟨bZ.put _ _ _ _, Nat.le_refl _, Below.turns (hA.trans (hb.mono (by simp))) T4 (fun k hk => by omega), k1.turns T4 (fun x hx e => by have := j1 x hx; simp at this; omega), k2.turns T4 (fun x hx e => by have := j2 x hx; simp at this; omega), j1.mono (by simp), j2.mono (by simp)⟩
      refine hK.out _ _ ?_ (fun hHeld4 => ?_)
      · exact ⟨T4.cell (p := ⟨w.heap.size, 1, none⟩) (by show ¬ w.heap.size = _; omega) s1, T4.cell (p := ⟨w.heap.size, 3, none⟩) (by show ¬ w.heap.size = _; omega) s2⟩
      clear hK K
      try simp only [Act.put, List.setIfInBounds_toArray, List.set_cons_zero, List.set_cons_succ]
      refine wpAnyH_done (by kernel_rfl) ?_ _
      refine NoPanic.normal ?_
      exact key.out _ _ p q p' q' F
  case kontV0 =>
    intro V g0 p0 n0 p0' n0' hF
    obtain ⟨D6, hg, hb, k1, k2, j1, j2⟩ := hF
    have hlt1 : w.heap.size + 2 < V0.heap.size := A4.lt
    have hVs : V0.heap.size ≤ V.heap.size := hb.size
    replace A1 := A1.below hb
    replace A2 := A2.below hb
    replace A4 := A4.below hb
    replace HB := Below.tr HB hb
    replace hcm0 : V0.cell? ⟨b, o + 4, none⟩ = some (.string mid) := by rw [HV0.out]; exact hcm0
    replace hcm0 := cell_below hb hcm0
    have KK1 : Hid (IsS V p0 n0 K1) := k1
    have KK2 : Hid (IsI V p0' n0' X1) := k2
    have JJ1 : Hid (From V0.heap.size p0) := j1
    have JJ2 : Hid (From V0.heap.size p0') := j2
    clear q0 q1 q2 q3 k1 k2 j1 j2 hb HV0
    obtain ⟨⟨q0, q1, q2, q3⟩, -⟩ := id A1
    go_wp2
    obtain ⟨V5, hV5⟩ : ∃ X, X = V.drew := ⟨_, rfl⟩
    replace HB : Below w.heap.size w V5 := by rw [hV5]; exact HB.drew
    replace A1 : Box4 V5 w.heap.size (.bool false) (.slice (some ⟨b, o, none⟩) 9 c) (.slice a'' n'' c'') (.slice (some ⟨b', o', none⟩) 10 c') := by rw [hV5]; exact A1.drew
    replace A2 : Box4 V5 (w.heap.size + 1) (.bool false) (.slice none 0 0) (.slice none 0 0) (.slice none 0 0) := by rw [hV5]; exact A2.drew
    replace A4 : Box4 V5 (w.heap.size + 2) (.bool false) (.slice none 0 0) (.slice none 0 0) (.slice none 0 0) := by rw [hV5]; exact A4.drew
    clear q0 q1 q2 q3
    obtain ⟨⟨q0, q1, q2, q3⟩, -⟩ := id A1
    have HV5 : Hid (V5 = V.drew) := hV5
    clear hV5
    refine (fun (key : Hid (∀ V g p q p' q', LaidI V5 V g p q p' q' K2 X2 → (?propV5 : World → Nat → Option Addr → Nat → Option Addr → Nat → Prop) V g p q p' q')) => ?regV5) ?kontV5
    case regV5 =>
      refine wp_region_noPanic ?_
      refine wp_region_held_drew (S := fun V => V.cell? ⟨w.heap.size, 1, none⟩ = some (.slice (some ⟨b, o, none⟩) 9 c) ∧ V.cell? ⟨w.heap.size, 3, none⟩ = some (.slice (some ⟨b', o', none⟩) 10 c')) (by kernel_rfl) (by rw [← HV5.out]; exact ⟨q1, q3⟩) (fun hHeld => ?_)
      rw [← HV5.out] at hHeld ⊢
      refine take_at (i := 0) (v := ?_) rfl (by kernel_rfl) (by kernel_rfl) (by kernel_rfl) (fun _ _ _ h => h) (Or.inl ⟨by rfl, ?_⟩) (by assumption) ?_
      rotate_left 1
      · (intro w hSw; (try dsimp only at hSw); go_simp; (try with_reducible rfl))
      try simp only [Act.put, List.setIfInBounds_toArray, List.set_cons_zero, List.set_cons_succ]
      refine take_at (i := 1) (v := ?_) rfl (by kernel_rfl) (by kernel_rfl) (by kernel_rfl) (fun _ _ _ h => h) (Or.inl ⟨by rfl, ?_⟩) (by assumption) ?_
      rotate_left 1
      · (intro w hSw; (try dsimp only at hSw); go_simp; (try with_reducible rfl))
      try simp only [Act.put, List.setIfInBounds_toArray, List.set_cons_zero, List.set_cons_succ]
      refine take_at (i := 2) (v := ?_) rfl (by kernel_rfl) (by kernel_rfl) (by kernel_rfl) (fun _ _ _ h => h) (Or.inl ⟨by rfl, ?_⟩) (by assumption) ?_
      rotate_left 1
      · (intro w hSw; (try dsimp only at hSw); go_simp; (try with_reducible rfl))
      try simp only [Act.put, List.setIfInBounds_toArray, List.set_cons_zero, List.set_cons_succ]
      refine take_at (i := 3) (v := ?_) rfl (by kernel_rfl) (by kernel_rfl) (by kernel_rfl) (fun _ _ _ h => h) (Or.inl ⟨by rfl, ?_⟩) (by assumption) ?_
      rotate_left 1
      · (intro w hSw; (try dsimp only at hSw); go_simp; (try with_reducible rfl))
      try simp only [Act.put, List.setIfInBounds_toArray, List.set_cons_zero, List.set_cons_succ]
      refine take_at (i := 4) (v := ?_) rfl (by kernel_rfl) (by kernel_rfl) (by kernel_rfl) (fun _ _ _ h => h) (Or.inl ⟨by rfl, ?_⟩) (by assumption) ?_
      rotate_left 1
      · (intro w hSw; (try dsimp only at hSw); go_simp; (try with_reducible rfl))
      try simp only [Act.put, List.setIfInBounds_toArray, List.set_cons_zero, List.set_cons_succ]
      refine take_at (i := 5) (v := ?_) rfl (by kernel_rfl) (by kernel_rfl) (by kernel_rfl) (fun _ _ _ h => h) (Or.inl ⟨by rfl, ?_⟩) (by assumption) ?_
      rotate_left 1
      · (intro w hSw; (try dsimp only at hSw); go_simp; (try with_reducible rfl))
      try simp only [Act.put, List.setIfInBounds_toArray, List.set_cons_zero, List.set_cons_succ]
      refine wpAnyH_ready (rs := [6, 7]) (by kernel_rfl) (by simp) ?_
      refine cons_at (i := 6) rfl (fun K hK => ?callFirstV5) (cons_at (i := 7) rfl (fun K hK => ?allocFirstV5) AllReadyH.nil)
      case callFirstV5 =>
        go_simp
        go_at_call 42
        refine (cQ _ HB).mono ?_
        rintro y u ⟨p, q, p', q', rfl, k1, k2, j1, j2, hb⟩
        have s1 := cell_below hb q1
        have s2 := cell_below hb q3
        refine hK.out _ _ ?_ (fun hHeld2 => ?_)
        · exact ⟨s1, s2⟩
        clear hK K
        try simp only [Act.put, List.setIfInBounds_toArray, List.set_cons_zero, List.set_cons_succ]
        refine wpAnyH_ready (rs := [7]) (by kernel_rfl) (by simp) ?_
        refine cons_at (i := 7) rfl (fun K hK => ?_) AllReadyH.nil
        go_simp
        refine hK.out _ _ ?_ (fun hHeld3 => ?_)
        · exact ⟨cell_alloc s1 _, cell_alloc s2 _⟩
        clear hK K
        try simp only [Act.put, List.setIfInBounds_toArray, List.set_cons_zero, List.set_cons_succ]
        refine wpAnyH_ready (rs := [8]) (by kernel_rfl) (by simp) ?_
        refine cons_at (i := 8) rfl (fun K hK => ?_) AllReadyH.nil
        go_simp
        have hA := (Below.refl u.heap.size u).alloc (Nat.le_refl _) (.cells #[.bool false, .slice p 4 q, .slice none 0 0, .slice p' 5 q'] 25)
        have F : LaidI V5 (u.alloc (.cells #[.bool false, .slice p 4 q, .slice none 0 0, .slice p' 5 q'] 25)) u.heap.size p q p' q' K2 X2 := ⟨box4_new _ _ _ _ _ _ rfl, hb.size, hb.alloc hb.size _, k1.below hA, k2.below hA, j1, j2⟩
        refine hK.out _ _ ?_ (fun hHeld4 => ?_)
        · exact ⟨cell_alloc s1 _, cell_alloc s2 _⟩
        clear hK K
        try simp only [Act.put, List.setIfInBounds_toArray, List.set_cons_zero, List.set_cons_succ]
        refine wpAnyH_done (by kernel_rfl) ?_ _
        refine NoPanic.normal ?_
        clear hHeld hHeld2 hHeld3 hHeld4 hA
        generalize u.alloc (.cells #[.bool false, .slice p 4 q, .slice none 0 0, .slice p' 5 q'] 25) = V at F ⊢
        generalize u.heap.size = g at F ⊢
        exact key.out V g p q p' q' F
      case allocFirstV5 =>
        go_simp
        refine hK.out _ _ ?_ (fun hHeld2 => ?_)
        · exact ⟨cell_alloc q1 _, cell_alloc q3 _⟩
        clear hK K
        try simp only [Act.put, List.setIfInBounds_toArray, List.set_cons_zero, List.set_cons_succ]
        refine wpAnyH_ready (rs := [6]) (by kernel_rfl) (by simp) ?_
        refine cons_at (i := 6) rfl (fun K hK => ?_) AllReadyH.nil
        go_simp
        go_at_call 42
        have hA := (Below.refl V5.heap.size V5).alloc (Nat.le_refl _) (.cells #[.bool false, .slice none 0 0, .slice none 0 0, .slice none 0 0] 25)
        have bZ := box4_new V5 (.bool false) (.slice none 0 0) (.slice none 0 0) (.slice none 0 0) 25 rfl
        refine (cQ _ (Below.tr HB hA)).mono ?_
        rintro y u ⟨p, q, p', q', rfl, k1, k2, j1, j2, hb⟩
        have s1 := cell_below hb (cell_alloc q1 _)
        have s2 := cell_below hb (cell_alloc q3 _)
        replace bZ := bZ.below hb
        obtain ⟨⟨z0, z1, z2, z3⟩, y0, y1, y2, y3⟩ := id bZ
        refine hK.out _ _ ?_ (fun hHeld3 => ?_)
        · exact ⟨s1, s2⟩
        clear hK K
        try simp only [Act.put, List.setIfInBounds_toArray, List.set_cons_zero, List.set_cons_succ]
        refine wpAnyH_ready (rs := [8]) (by kernel_rfl) (by simp) ?_
        refine cons_at (i := 8) rfl (fun K hK => ?_) AllReadyH.nil
        go_simp
        have T4 := turns_put4 u V5.heap.size (.bool false) (.slice p 4 q) (.slice none 0 0) (.slice p' 5 q')
        have hlt : w.heap.size < V5.heap.size := A1.lt
        have F : LaidI V5 ((((u.setCell ⟨V5.heap.size, 0, none⟩ (.bool false)).setCell ⟨V5.heap.size, 1, none⟩ (.slice p 4 q)).setCell ⟨V5.heap.size, 2, none⟩ (.slice none 0 0)).setCell ⟨V5.heap.size, 3, none⟩ (.slice p' 5 q')) V5.heap.size p q p' q' K2 X2 :=
          ⟨bZ.put _ _ _ _, Nat.le_refl _, Below.turns (hA.trans (hb.mono (by simp))) T4 (fun k hk => by omega), k1.turns T4 (fun x hx e => by have := j1 x hx; simp at this; omega), k2.turns T4 (fun x hx e => by have := j2 x hx; simp at this; omega), j1.mono (by simp), j2.mono (by simp)⟩
        refine hK.out _ _ ?_ (fun hHeld4 => ?_)
        · exact ⟨T4.cell (p := ⟨w.heap.size, 1, none⟩) (by show ¬ w.heap.size = _; omega) s1, T4.cell (p := ⟨w.heap.size, 3, none⟩) (by show ¬ w.heap.size = _; omega) s2⟩
        clear hK K
        try simp only [Act.put, List.setIfInBounds_toArray, List.set_cons_zero, List.set_cons_succ]
        refine wpAnyH_done (by kernel_rfl) ?_ _
        refine NoPanic.normal ?_
        exact key.out _ _ p q p' q' F
    case kontV5 =>
      intro V6 g1 p1 n1 p1' n1' hF
      obtain ⟨D7, hg1, hb, k1, k2, j1, j2⟩ := hF
      replace A1 := A1.below hb
      replace A2 := A2.below hb
      replace A4 := A4.below hb
      replace D6 : Box4 V5 g0 (.bool false) (.slice p0 4 n0) (.slice none 0 0) (.slice p0' 5 n0') := by rw [HV5.out]; exact D6.drew
      replace D6 := D6.below hb
      replace HB := Below.tr HB hb
      replace hcm0 : V5.cell? ⟨b, o + 4, none⟩ = some (.string mid) := by rw [HV5.out]; exact hcm0
      replace hcm0 := cell_below hb hcm0
      have hV5s : V.heap.size ≤ V5.heap.size := by rw [HV5.out]; exact Nat.le_refl _
      replace KK1 : Hid (IsS V6 p0 n0 K1) := IsS.below (w := V5) (by rw [HV5.out]; exact KK1.out) hb
      replace KK2 : Hid (IsI V6 p0' n0' X1) := IsI.below (w := V5) (by rw [HV5.out]; exact KK2.out) hb
      have KK3 : Hid (IsS V6 p1 n1 K2) := k1
      have KK4 : Hid (IsI V6 p1' n1' X2) := k2
      have JJ3 : Hid (From V5.heap.size p1) := j1
      have JJ4 : Hid (From V5.heap.size p1') := j2
      clear q0 q1 q2 q3 k1 k2 j1 j2 hb HV5
      obtain ⟨V7, hV7⟩ : ∃ X, X = V6.drew := ⟨_, rfl⟩
      replace A1 : Box4 V7 w.heap.size (.bool false) (.slice (some ⟨b, o, none⟩) 9 c) (.slice a'' n'' c'') (.slice (some ⟨b', o', none⟩) 10 c') := by rw [hV7]; exact A1.drew
      replace A2 : Box4 V7 (w.heap.size + 1) (.bool false) (.slice none 0 0) (.slice none 0 0) (.slice none 0 0) := by rw [hV7]; exact A2.drew
      replace A4 : Box4 V7 (w.heap.size + 2) (.bool false) (.slice none 0 0) (.slice none 0 0) (.slice none 0 0) := by rw [hV7]; exact A4.drew
      replace D6 : Box4 V7 g0 (.bool false) (.slice p0 4 n0) (.slice none 0 0) (.slice p0' 5 n0') := by rw [hV7]; exact D6.drew
      replace D7 : Box4 V7 g1 (.bool false) (.slice p1 4 n1) (.slice none 0 0) (.slice p1' 5 n1') := by rw [hV7]; exact D7.drew
      replace hcm0 : V7.cell? ⟨b, o + 4, none⟩ = some (.string mid) := by rw [hV7]; exact hcm0
      replace HB : Below w.heap.size w V7 := by rw [hV7]; exact HB.drew
      replace KK1 : Hid (IsS V7 p0 n0 K1) := by rw [hV7]; exact KK1
      replace KK2 : Hid (IsI V7 p0' n0' X1) := by rw [hV7]; exact KK2
      replace KK3 : Hid (IsS V7 p1 n1 K2) := by rw [hV7]; exact KK3
      replace KK4 : Hid (IsI V7 p1' n1' X2) := by rw [hV7]; exact KK4
      obtain ⟨V8, hV8⟩ : ∃ X, X = ((((V7.setCell ⟨w.heap.size + 1, 0, none⟩ (.bool false)).setCell ⟨w.heap.size + 1, 1, none⟩ (.slice p0 4 n0)).setCell ⟨w.heap.size + 1, 2, none⟩ (.slice none 0 0)).setCell ⟨w.heap.size + 1, 3, none⟩ (.slice p0' 5 n0')) := ⟨_, rfl⟩
      obtain ⟨V9, hV9⟩ : ∃ X, X = ((((V8.setCell ⟨w.heap.size + 2, 0, none⟩ (.bool false)).setCell ⟨w.heap.size + 2, 1, none⟩ (.slice p1 4 n1)).setCell ⟨w.heap.size + 2, 2, none⟩ (.slice none 0 0)).setCell ⟨w.heap.size + 2, 3, none⟩ (.slice p1' 5 n1')) := ⟨_, rfl⟩
      have T8 : Turns (fun k => k = w.heap.size + 1) V7 V8 := by rw [hV8]; exact turns_put4 V7 _ _ _ _ _
      have T9 : Turns (fun k => k = w.heap.size + 2) V8 V9 := by rw [hV9]; exact turns_put4 V8 _ _ _ _ _
      have A18 := A1.turns T8 (by omega)
      have A28 : Box4 V8 (w.heap.size + 1) (.bool false) (.slice p0 4 n0) (.slice none 0 0) (.slice p0' 5 n0') := by rw [hV8]; exact A2.put _ _ _ _
      have A48 := A4.turns T8 (by omega)
      have D78 := D7.turns T8 (by omega)
      have hcm8 : V8.cell? ⟨b, o + 4, none⟩ = some (.string mid) := T8.cell (p := ⟨b, o + 4, none⟩) (by show ¬ b = w.heap.size + 1; omega) hcm0
      have A29 := A28.turns T9 (by omega)
      have A49 : Box4 V9 (w.heap.size + 2) (.bool false) (.slice p1 4 n1) (.slice none 0 0) (.slice p1' 5 n1') := by rw [hV9]; exact A48.put _ _ _ _
      have HB9 : Hid (Below w.heap.size w V9) := Below.turns (Below.turns HB T8 (fun k hk => by omega)) T9 (fun k hk => by omega)
      replace KK1 : Hid (IsS V9 p0 n0 K1) := (KK1.out.turns T8 (fun x hx e => by have := JJ1.out x hx; omega)).turns T9 (fun x hx e => by have := JJ1.out x hx; omega)
      replace KK2 : Hid (IsI V9 p0' n0' X1) := (KK2.out.turns T8 (fun x hx e => by have := JJ2.out x hx; omega)).turns T9 (fun x hx e => by have := JJ2.out x hx; omega)
      replace KK3 : Hid (IsS V9 p1 n1 K2) := (KK3.out.turns T8 (fun x hx e => by have := JJ3.out x hx; omega)).turns T9 (fun x hx e => by have := JJ3.out x hx; omega)
      replace KK4 : Hid (IsI V9 p1' n1' X2) := (KK4.out.turns T8 (fun x hx e => by have := JJ4.out x hx; omega)).turns T9 (fun x hx e => by have := JJ4.out x hx; omega)
      have hst1 : Hid ((((V7.setCell ⟨w.heap.size + 1, 0, none⟩ (.bool false)).setCell ⟨w.heap.size + 1, 1, none⟩ (.slice p0 4 n0)).setCell ⟨w.heap.size + 1, 2, none⟩ (.slice none 0 0)).setCell ⟨w.heap.size + 1, 3, none⟩ (.slice p0' 5 n0') = V8) := hV8.symm
      have hst3 : Hid ((((V8.setCell ⟨w.heap.size + 1 + 1, 0, none⟩ (.bool false)).setCell ⟨w.heap.size + 1 + 1, 1, none⟩ (.slice p1 4 n1)).setCell ⟨w.heap.size + 1 + 1, 2, none⟩ (.slice none 0 0)).setCell ⟨w.heap.size + 1 + 1, 3, none⟩ (.slice p1' 5 n1') = V9) := hV9.symm
      have HV7 : Hid (V7 = V6.drew) := hV7
      obtain ⟨⟨q0, q1, q2, q3⟩, -⟩ := A1
      obtain ⟨⟨q08, q18, q28, q38⟩, -⟩ := A18
      obtain ⟨⟨d0, d1, d2, d3⟩, -⟩ := D6
      obtain ⟨⟨e0, e1, e2, e3⟩, -⟩ := D7
      obtain ⟨⟨e08, e18, e28, e38⟩, -⟩ := D78
      obtain ⟨⟨r0, r1, r2, r3⟩, u0, u1, u2, u3⟩ := A2
      obtain ⟨⟨t0, t1, t2, t3⟩, v0, v1, v2, v3⟩ := A48
      clear hV7 hV8 hV9 T8 T9 A28 A4 HB
      go_wp2
      refine region_worlds (by kernel_rfl) [6, 7, 8] (cutV (.agg #[.bool false, .slice p0 4 n0, .slice none 0 0, .slice p0' 5 n0']) (.slice (some ⟨b, o, none⟩) 9 c) (.agg #[.bool false, .slice p1 4 n1, .slice none 0 0, .slice p1' 5 n1']) w.heap.size b o mid) (worlds4 V7 V8 V8 V9) (by kernel_rfl) (by kernel_rfl) HV7.out.symm ?step 10 rfl ?done
      case step =>
        intro i o ho kk a2 hkk hmay hdf hsz hdep hsame
        match i, ho with
        | 0, ho =>
          cases ho
          have h8 := (hsame 8 rfl)
          match kk, hkk, hmay with
          | 0, _, hq => first | (cases hq; done) | (exact val_op rfl (wanted_free rfl) (by clear hdep hsame hsz hdf; (try simp only [cutV, worlds4]); go_simp) rfl rfl)
          | 1, _, hq => first | (cases hq; done) | (exact val_op rfl (wanted_free rfl) (by clear hdep hsame hsz hdf; (try simp only [cutV, worlds4]); go_simp) rfl rfl)
          | 2, _, hq => first | (cases hq; done) | (exact val_op rfl (wanted_free rfl) (by clear hdep hsame hsz hdf; (try simp only [cutV, worlds4]); go_simp) rfl rfl)
          | 3, _, hq => first | (cases hq; done) | (exact val_op rfl (wanted_free rfl) (by clear hdep hsame hsz hdf; (try simp only [cutV, worlds4]); go_simp) rfl rfl)
          | kk + 4, hkk, _ => simp at hkk
        | 1, ho =>
          cases ho
          have h1 := (hsame 1 rfl)
          exact val_op rfl (wanted_free rfl) (by clear hdep hsame hsz hdf; (try simp only [cutV, worlds4]); go_simp) rfl rfl
        | 2, ho =>
          cases ho
          have h58 := (hdep 1 _ 58 rfl rfl rfl)
          simp only [cutV] at h58
          match kk, hkk, hmay with
          | 0, _, hq => first | (cases hq; done) | (exact val_op rfl (wanted_free rfl) (by clear hdep hsame hsz hdf; (try simp only [cutV, worlds4]); go_simp) rfl rfl)
          | 1, _, hq => first | (cases hq; done) | (exact val_op rfl (wanted_free rfl) (by clear hdep hsame hsz hdf; (try simp only [cutV, worlds4]); go_simp) rfl rfl)
          | 2, _, hq => first | (cases hq; done) | (exact val_op rfl (wanted_free rfl) (by clear hdep hsame hsz hdf; (try simp only [cutV, worlds4]); go_simp) rfl rfl)
          | 3, _, hq => first | (cases hq; done) | (exact val_op rfl (wanted_free rfl) (by clear hdep hsame hsz hdf; (try simp only [cutV, worlds4]); go_simp) rfl rfl)
          | kk + 4, hkk, _ => simp at hkk
        | 3, ho =>
          cases ho
          have h59 := (hdep 2 _ 59 rfl rfl rfl)
          simp only [cutV] at h59
          exact val_op rfl (wanted_free rfl) (by clear hdep hsame hsz hdf; (try simp only [cutV, worlds4]); go_simp) rfl rfl
        | 4, ho =>
          cases ho
          have h60 := (hdep 3 _ 60 rfl rfl rfl)
          simp only [cutV] at h60
          match kk, hkk, hmay with
          | 0, _, hq => first | (cases hq; done) | (exact val_op rfl (wanted_free rfl) (by clear hdep hsame hsz hdf; (try simp only [cutV, worlds4]); go_simp) rfl rfl)
          | 1, _, hq => first | (cases hq; done) | (exact val_op rfl (wanted_free rfl) (by clear hdep hsame hsz hdf; (try simp only [cutV, worlds4]); go_simp) rfl rfl)
          | 2, _, hq => first | (cases hq; done) | (exact val_op rfl (wanted_free rfl) (by clear hdep hsame hsz hdf; (try simp only [cutV, worlds4]); go_simp) rfl rfl)
          | 3, _, hq => first | (cases hq; done) | (exact val_op rfl (wanted_free rfl) (by clear hdep hsame hsz hdf; (try simp only [cutV, worlds4]); go_simp) rfl rfl)
          | kk + 4, hkk, _ => simp at hkk
        | 5, ho =>
          cases ho
          have h9 := (hsame 9 rfl)
          match kk, hkk, hmay with
          | 0, _, hq => first | (cases hq; done) | (exact val_op rfl (wanted_free rfl) (by clear hdep hsame hsz hdf; (try simp only [cutV, worlds4]); go_simp) rfl rfl)
          | 1, _, hq => first | (cases hq; done) | (exact val_op rfl (wanted_free rfl) (by clear hdep hsame hsz hdf; (try simp only [cutV, worlds4]); go_simp) rfl rfl)
          | 2, _, hq => first | (cases hq; done) | (exact val_op rfl (wanted_free rfl) (by clear hdep hsame hsz hdf; (try simp only [cutV, worlds4]); go_simp) rfl rfl)
          | 3, _, hq => first | (cases hq; done) | (exact val_op rfl (wanted_free rfl) (by clear hdep hsame hsz hdf; (try simp only [cutV, worlds4]); go_simp) rfl rfl)
          | kk + 4, hkk, _ => simp at hkk
        | 6, ho =>
          cases ho
          have h2 := (hsame 2 rfl)
          have h57 := (hdep 0 _ 57 rfl rfl rfl)
          simp only [cutV] at h57
          match kk, hkk, hmay with
          | 0, _, _ => exact val_skip rfl (wanted_free rfl) rfl (by clear hdep hsame hsz hdf; simp only [worlds4]; go_simp; try exact hst1.out) rfl
          | 1, _, hq => cases hq
          | 2, _, hq => cases hq
          | 3, _, hq => cases hq
          | kk + 4, hkk, _ => simp at hkk
        | 7, ho =>
          cases ho
          have h61 := (hdep 4 _ 61 rfl rfl rfl)
          simp only [cutV] at h61
          match kk, hkk, hmay with
          | 0, _, hq => cases hq
          | 1, _, _ => exact val_op rfl (wanted_free rfl) (by clear hdep hsame hsz hdf; (try simp only [cutV, worlds4]); go_simp) rfl rfl
          | 2, _, hq => cases hq
          | 3, _, hq => cases hq
          | kk + 4, hkk, _ => simp at hkk
        | 8, ho =>
          cases ho
          have h4 := (hsame 4 rfl)
          have h62 := (hdep 5 _ 62 rfl rfl rfl)
          simp only [cutV] at h62
          match kk, hkk, hmay with
          | 0, _, hq => cases hq
          | 1, _, hq => cases hq
          | 2, _, _ => exact val_skip rfl (wanted_free rfl) rfl (by clear hdep hsame hsz hdf; simp only [worlds4]; go_simp; try exact hst3.out) rfl
          | 3, _, hq => cases hq
          | kk + 4, hkk, _ => simp at hkk
        | 9, ho =>
          cases ho
          exact val_op rfl (wanted_free rfl) (by clear hdep hsame hsz hdf; (try simp only [cutV, worlds4]); go_simp) rfl rfl
        | kk + 10, ho => simp at ho
      case done =>
        simp [filledN, cutV, worlds4]
        obtain ⟨⟨x0, x1, x2, x3⟩, -⟩ := A29
        obtain ⟨⟨y0, y1, y2, y3⟩, -⟩ := A49
        go_wp2
        refine bodyPost_ret (v := .tuple #[.agg #[.bool false, .slice p0 4 n0, .slice none 0 0, .slice p0' 5 n0'], .string mid, .agg #[.bool false, .slice p1 4 n1, .slice none 0 0, .slice p1' 5 n1'], .int .i64 0]) (by simp [results, Try.results24, go_sem, x0, x1, x2, x3, y0, y1, y2, y3]) rfl ⟨p0, n0, p0', n0', p1, n1, p1', n1', rfl, KK1.out, KK2.out, KK3.out, KK4.out, HB9.out⟩

end Go.Proofs.Ytmhnnfmggdohkaa

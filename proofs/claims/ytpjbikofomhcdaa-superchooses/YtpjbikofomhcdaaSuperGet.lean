/-
  Package super's Get.
-/
import Derived.Test.YtpjbikofomhcdaaSuperOwn
import Derived.Test.YtpjbikofomhcdaaPageWant
namespace Go.Proofs.Ytpjbikofomhcdaa
open Go.RowKit Plain
set_option linter.unusedVariables false

theorem Box3.off {w : World} {h k i : Nat} {v0 v1 v2 u : Value} (b : Box3 w h v0 v1 v2) (hn : h ≠ k) : Box3 (w.setCell ⟨k, i, none⟩ u) h v0 v1 v2 := by
  obtain ⟨⟨b0, b1, b2⟩, f0, f1, f2⟩ := b
  exact ⟨⟨cell_set_other (.inl hn) b0, cell_set_other (.inl hn) b1, cell_set_other (.inl hn) b2⟩, by simpa using f0, by simpa using f1, by simpa using f2⟩

set_option maxHeartbeats 1000000 in
theorem told_any (k g : Int) (b : ByteArray) (w : World) (hb : b.size = 6) :
    Calls Try.prog 24 #[.agg #[.int .i64 k, .int .i64 g, .string b]] w fun e w' => e = .returned (.agg #[.int .i64 g, .int .i64 (getV b 0 2), .int .i64 (getV b 2 2), .int .i64 (getV b 4 2)]) ∧ Below w.heap.size w w' := by
  have hs : b.size ≤ maxLen := by rw [hb]; decide
  have c : ∀ (p : Nat), p + 2 ≤ 6 → ∀ W, Calls Try.prog 38 #[.string b, .int .i64 p, .int .i64 2] W fun e w' => ∃ v, e = .returned (.tuple #[.int .i64 (getV b p 2), .int .i64 (p + 2), .int .i64 v]) ∧ W = w' := by
    intro p hp W
    have e : getE b p 2 = 0 := getE_zero ⟨by omega, by omega, by omega, by omega⟩
    refine (get_any b p 2 W hs).mono fun ee w' ⟨he, hb⟩ => ⟨0, ?_, hb⟩
    rw [he, getR, getT, e]; rfl
  have c1 : ∀ W, Calls Try.prog 38 #[.string b, .int .i64 0, .int .i64 2] W fun e w' => ∃ v, e = .returned (.tuple #[.int .i64 (getV b 0 2), .int .i64 2, .int .i64 v]) ∧ W = w' := c 0 (by omega)
  have c2 : ∀ W, Calls Try.prog 38 #[.string b, .int .i64 2, .int .i64 2] W fun e w' => ∃ v, e = .returned (.tuple #[.int .i64 (getV b 2 2), .int .i64 4, .int .i64 v]) ∧ W = w' := c 2 (by omega)
  have c3 : ∀ W, Calls Try.prog 38 #[.string b, .int .i64 4, .int .i64 2] W fun e w' => ∃ v, e = .returned (.tuple #[.int .i64 (getV b 4 2), .int .i64 6, .int .i64 v]) ∧ W = w' := c 4 (by omega)
  obtain ⟨A, hA⟩ : ∃ A, A = getV b 0 2 := ⟨_, rfl⟩
  obtain ⟨B, hB⟩ : ∃ A, A = getV b 2 2 := ⟨_, rfl⟩
  obtain ⟨C, hC⟩ : ∃ A, A = getV b 4 2 := ⟨_, rfl⟩
  rw [← hA] at c1
  rw [← hB] at c2
  rw [← hC] at c3
  rw [← hA, ← hB, ← hC]
  clear hA hB hC c hs hb
  go_enter Try.func24, Try.ntmps24
  go_wp2
  have i0 : ∀ (x0 x1 x2 : Value) (W : World), (Instr.index 60 (.agg #[x0, x1, x2]) (.int .i64 0)).run Try.prog W = .ok x0 W := fun _ _ _ _ => by kernel_rfl
  have i1 : ∀ (x0 x1 x2 : Value) (W : World), (Instr.index 60 (.agg #[x0, x1, x2]) (.int .i64 1)).run Try.prog W = .ok x1 W := fun _ _ _ _ => by kernel_rfl
  have i2 : ∀ (x0 x1 x2 : Value) (W : World), (Instr.index 60 (.agg #[x0, x1, x2]) (.int .i64 2)).run Try.prog W = .ok x2 W := fun _ _ _ _ => by kernel_rfl
  go_loopw [4, 14] (fun a i wr => Box3 wr w.heap.size (.int .i64 k) (.int .i64 g) (.string b) ∧ Box4 wr (w.heap.size + 1) (.int .i64 0) (.int .i64 0) (.int .i64 0) (.int .i64 0) ∧ Below w.heap.size w wr ∧
      ((a = .int .i64 0 ∧ i = .int .i64 0 ∧ Box4 wr (w.heap.size + 1 + 1) (.int .i64 g) (.int .i64 0) (.int .i64 0) (.int .i64 0)) ∨
       (a = .int .i64 2 ∧ i = .int .i64 1 ∧ Box4 wr (w.heap.size + 1 + 1) (.int .i64 g) (.int .i64 A) (.int .i64 0) (.int .i64 0)) ∨
       (a = .int .i64 4 ∧ i = .int .i64 2 ∧ Box4 wr (w.heap.size + 1 + 1) (.int .i64 g) (.int .i64 A) (.int .i64 B) (.int .i64 0)) ∨
       (a = .int .i64 6 ∧ i = .int .i64 3 ∧ Box4 wr (w.heap.size + 1 + 1) (.int .i64 g) (.int .i64 A) (.int .i64 B) (.int .i64 C)))) (fun _ i _ => 3 - (intOf i).toNat)
  case atStart =>
    refine ⟨((box3_new w _ _ _ _).alloc _).alloc _, (box4_new _ _ _ _ _ _ (by simp)).alloc _, (((Below.refl _ _).alloc (Nat.le_refl _) _).alloc (by simp) _).alloc (by simp; omega) _, .inl ⟨rfl, rfl, box4_new _ _ _ _ _ _ (by simp)⟩⟩
  case round =>
    obtain ⟨P, R, hB, hrel⟩ := hrel
    obtain ⟨⟨p0, p1, p2⟩, -⟩ := id P
    rcases hrel with ⟨rfl, rfl, T⟩ | ⟨rfl, rfl, T⟩ | ⟨rfl, rfl, T⟩ | ⟨rfl, rfl, T⟩
    · obtain ⟨⟨t0, t1, t2, t3⟩, f0, f1, f2, f3⟩ := id T
      go_wp2_with (go_at_call 38; refine (c1 _).mono ?_; rintro e w' ⟨v, rfl, rfl⟩)
      go_roundw
      case rel => exact ⟨P.off (by omega), R.off (by omega), hB.setCell (p := ⟨_, 1, none⟩) (by show w.heap.size ≤ w.heap.size + 1 + 1; omega) _, .inr (.inl ⟨rfl, rfl, T.put1 _⟩)⟩
      case measure => simp [intOf]
    · obtain ⟨⟨t0, t1, t2, t3⟩, f0, f1, f2, f3⟩ := id T
      go_wp2_with (go_at_call 38; refine (c2 _).mono ?_; rintro e w' ⟨v, rfl, rfl⟩)
      go_roundw
      case rel => exact ⟨P.off (by omega), R.off (by omega), hB.setCell (p := ⟨_, 2, none⟩) (by show w.heap.size ≤ w.heap.size + 1 + 1; omega) _, .inr (.inr (.inl ⟨rfl, rfl, T.put2 _⟩))⟩
      case measure => simp [intOf]
    · obtain ⟨⟨t0, t1, t2, t3⟩, f0, f1, f2, f3⟩ := id T
      go_wp2_with (go_at_call 38; refine (c3 _).mono ?_; rintro e w' ⟨v, rfl, rfl⟩)
      go_roundw
      case rel => exact ⟨P.off (by omega), R.off (by omega), hB.setCell (p := ⟨_, 3, none⟩) (by show w.heap.size ≤ w.heap.size + 1 + 1; omega) _, .inr (.inr (.inr ⟨rfl, rfl, T.put3 _⟩))⟩
      case measure => simp [intOf]
    · obtain ⟨⟨t0, t1, t2, t3⟩, -⟩ := id T
      obtain ⟨⟨r0, r1, r2, r3⟩, e0, e1, e2, e3⟩ := id R
      go_wp2
      obtain ⟨⟨z0, z1, z2, z3⟩, -⟩ := R.puts (.int .i64 g) (.int .i64 A) (.int .i64 B) (.int .i64 C)
      exact bodyPost_ret (v := .agg #[.int .i64 g, .int .i64 A, .int .i64 B, .int .i64 C]) (by simp [results, Try.results24, go_sem, z0, z1, z2, z3]) rfl ⟨rfl, below_set4 hB (by omega)⟩

set_option maxHeartbeats 1000000 in
theorem suGet_any (s : ByteArray) (w : World) (hs : s.size ≤ maxLen) :
    Calls Try.prog 12 #[.string s] w fun e w' => e = .returned (.tuple #[.agg #[.int .i64 (suG s), .int .i64 (suR s), .int .i64 (suM s), .int .i64 (suZ s)], .int .i64 (suE s)]) ∧ Below w.heap.size w w' := by
  have c1 : ∀ W : World, Calls Try.prog 23 #[.string s, .slice (some ⟨W.heap.size, 0, none⟩) 1 1] (W.alloc (.cells #[.int .i64 4] 3)) fun e w' => e = .returned (.tuple #[.agg #[.int .i64 (wantK s [4]), .int .i64 (wantG s [4]), .string (wantB s [4])], .int .i64 (wantE s [4])]) ∧ Below W.heap.size W w' := by
    intro W
    exact (want_any s _ 1 [4] _ hs (isI_one W 4)).mono fun e w' ⟨he, hb⟩ => ⟨he, below_box hb⟩
  have eE : wantE s [4] = if readE s = 0 then (if readK s = 4 then 0 else 40) else readE s := by unfold wantE; simp
  obtain ⟨K, hK⟩ : ∃ x, x = wantK s [4] := ⟨_, rfl⟩
  obtain ⟨G, hG⟩ : ∃ x, x = wantG s [4] := ⟨_, rfl⟩
  obtain ⟨B, hBB⟩ : ∃ x, x = wantB s [4] := ⟨_, rfl⟩
  obtain ⟨E, hE⟩ : ∃ x, x = wantE s [4] := ⟨_, rfl⟩
  rw [← hK, ← hG, ← hBB, ← hE] at c1
  have c1' : ∀ W : World, Calls Try.prog 23 #[.string s, .slice (some ⟨W.heap.size + 1, 0, none⟩) 1 1] ((W.alloc (.cells #[.int .i64 0, .int .i64 0, .int .i64 0, .int .i64 0] 23)).alloc (.cells #[.int .i64 4] 3)) fun e w' => e = .returned (.tuple #[.agg #[.int .i64 K, .int .i64 G, .string B], .int .i64 E]) ∧ Below (W.alloc (.cells #[.int .i64 0, .int .i64 0, .int .i64 0, .int .i64 0] 23)).heap.size (W.alloc (.cells #[.int .i64 0, .int .i64 0, .int .i64 0, .int .i64 0] 23)) w' := by
    intro W
    have e : (W.alloc (.cells #[.int .i64 0, .int .i64 0, .int .i64 0, .int .i64 0] 23)).heap.size = W.heap.size + 1 := by simp
    rw [← e]
    exact c1 _
  clear c1
  have c1 := c1'
  clear c1'
  by_cases h0 : E = 0
  · have hr : readE s = 0 ∧ readK s = 4 := by
      rw [hE, eE] at h0
      by_cases a : readE s = 0
      · rw [if_pos a] at h0
        by_cases b : readK s = 4
        · exact ⟨a, b⟩
        · rw [if_neg b] at h0; omega
      · rw [if_neg a] at h0; exact absurd h0 a
    have eB : B = readB s := by rw [hBB, wantB, if_pos (hE.symm.trans h0)]
    have eG : G = readG s := by rw [hG, wantG, if_pos (hE.symm.trans h0)]
    by_cases h6 : (readB s).size = 6
    · have c2 : ∀ W, Calls Try.prog 24 #[.agg #[.int .i64 K, .int .i64 G, .string B]] W fun e w' => e = .returned (.agg #[.int .i64 G, .int .i64 (getV B 0 2), .int .i64 (getV B 2 2), .int .i64 (getV B 4 2)]) ∧ Below W.heap.size W w' := fun W => told_any K G B W (by rw [eB]; exact h6)
      have c3 : ∀ W, Calls Try.prog 10 #[.agg #[.int .i64 G, .int .i64 (getV B 0 2), .int .i64 (getV B 2 2), .int .i64 (getV B 4 2)]] W fun e w' => e = .returned (.bool (rightSu G (getV B 0 2) (getV B 2 2) (getV B 4 2))) ∧ Below W.heap.size W w' := fun W => suRight_any _ _ _ _ W
      have hE' : suE s = if rightSu G (getV B 0 2) (getV B 2 2) (getV B 4 2) then 0 else 4 := by rw [suE, if_pos hr.1, if_pos hr.2, if_pos h6, eG, eB]
      have h6' : (B.size : Int) = 6 := by rw [eB]; omega
      have zG : suG s = if suE s = 0 then G else 0 := by rw [suG, eG]
      have zR : suR s = if suE s = 0 then getV B 0 2 else 0 := by rw [suR, eB]
      have zM : suM s = if suE s = 0 then getV B 2 2 else 0 := by rw [suM, eB]
      have zZ : suZ s = if suE s = 0 then getV B 4 2 else 0 := by rw [suZ, eB]
      obtain ⟨X, hX⟩ : ∃ x, x = getV B 0 2 := ⟨_, rfl⟩
      obtain ⟨Y, hY⟩ : ∃ x, x = getV B 2 2 := ⟨_, rfl⟩
      obtain ⟨Z, hZ⟩ : ∃ x, x = getV B 4 2 := ⟨_, rfl⟩
      rw [← hX, ← hY, ← hZ] at c2 c3 hE'
      rw [← hX] at zR
      rw [← hY] at zM
      rw [← hZ] at zZ
      clear hX hY hZ eB eG hK hG hBB hE eE h6 hr
      subst h0
      cases hd : rightSu G X Y Z with
      | true =>
        rw [hd, if_pos rfl] at hE'
        rw [if_pos hE'] at zG zR zM zZ
        rw [hE', zG, zR, zM, zZ]
        rw [hd] at c3
        clear hd hE' zG zR zM zZ
        go_enter Try.func12, Try.ntmps12
        go_wp2_with (first
      | (go_at_call 23; refine (c1 _).mono ?_; rintro e w1 ⟨rfl, hb⟩; have R := (box4_cells hb).alloc (.cells #[.int .i64 K, .int .i64 G, .string B] 44); have hB := below_box hb; replace hB := hB.alloc hB.size (.cells #[.int .i64 K, .int .i64 G, .string B] 44); have P := box3_new w1 (.int .i64 K) (.int .i64 G) (.string B) 44; obtain ⟨⟨p0, p1, p2⟩, -⟩ := id P; obtain ⟨⟨r0, r1, r2, r3⟩, f0, f1, f2, f3⟩ := id R; clear hb)
      | (go_at_call 24; refine (c2 _).mono ?_; rintro e w2 ⟨rfl, hb⟩; replace R := (R.below hb).alloc (.cells #[.int .i64 G, .int .i64 X, .int .i64 Y, .int .i64 Z] 23); replace hB := Below.tr hB hb; replace hB := hB.alloc hB.size (.cells #[.int .i64 G, .int .i64 X, .int .i64 Y, .int .i64 Z] 23); have T := box4_new w2 (.int .i64 G) (.int .i64 X) (.int .i64 Y) (.int .i64 Z) 23 rfl; obtain ⟨⟨t0, t1, t2, t3⟩, -⟩ := id T; clear hb p0 p1 p2 P r0 r1 r2 r3 f0 f1 f2 f3)
      | (go_at_call 10; refine (c3 _).mono ?_; rintro e w3 ⟨rfl, hb⟩; replace R := R.below hb; replace T := T.below hb; replace hB := Below.tr hB hb; obtain ⟨⟨t0, t1, t2, t3⟩, -⟩ := id T; obtain ⟨⟨r0, r1, r2, r3⟩, f0, f1, f2, f3⟩ := id R; clear hb)
          )
        obtain ⟨⟨z0, z1, z2, z3⟩, -⟩ := R.puts (.int .i64 G) (.int .i64 X) (.int .i64 Y) (.int .i64 Z)
        exact bodyPost_ret (v := .tuple #[.agg #[.int .i64 G, .int .i64 X, .int .i64 Y, .int .i64 Z], .int .i64 0]) (by simp [results, Try.results12, go_sem, z0, z1, z2, z3]) rfl ⟨rfl, below_set4 hB (Nat.le_refl _)⟩
      | false =>
        rw [hd, if_neg (by decide)] at hE'
        rw [if_neg (by omega)] at zG zR zM zZ
        rw [hE', zG, zR, zM, zZ]
        rw [hd] at c3
        clear hd hE' zG zR zM zZ
        go_enter Try.func12, Try.ntmps12
        go_wp2_with (first
      | (go_at_call 23; refine (c1 _).mono ?_; rintro e w1 ⟨rfl, hb⟩; have R := (box4_cells hb).alloc (.cells #[.int .i64 K, .int .i64 G, .string B] 44); have hB := below_box hb; replace hB := hB.alloc hB.size (.cells #[.int .i64 K, .int .i64 G, .string B] 44); have P := box3_new w1 (.int .i64 K) (.int .i64 G) (.string B) 44; obtain ⟨⟨p0, p1, p2⟩, -⟩ := id P; obtain ⟨⟨r0, r1, r2, r3⟩, f0, f1, f2, f3⟩ := id R; clear hb)
      | (go_at_call 24; refine (c2 _).mono ?_; rintro e w2 ⟨rfl, hb⟩; replace R := (R.below hb).alloc (.cells #[.int .i64 G, .int .i64 X, .int .i64 Y, .int .i64 Z] 23); replace hB := Below.tr hB hb; replace hB := hB.alloc hB.size (.cells #[.int .i64 G, .int .i64 X, .int .i64 Y, .int .i64 Z] 23); have T := box4_new w2 (.int .i64 G) (.int .i64 X) (.int .i64 Y) (.int .i64 Z) 23 rfl; obtain ⟨⟨t0, t1, t2, t3⟩, -⟩ := id T; clear hb p0 p1 p2 P r0 r1 r2 r3 f0 f1 f2 f3)
      | (go_at_call 10; refine (c3 _).mono ?_; rintro e w3 ⟨rfl, hb⟩; replace R := R.below hb; replace T := T.below hb; replace hB := Below.tr hB hb; obtain ⟨⟨t0, t1, t2, t3⟩, -⟩ := id T; obtain ⟨⟨r0, r1, r2, r3⟩, f0, f1, f2, f3⟩ := id R; clear hb)
          )
        obtain ⟨⟨z0, z1, z2, z3⟩, -⟩ := R.puts (.int .i64 0) (.int .i64 0) (.int .i64 0) (.int .i64 0)
        exact bodyPost_ret (v := .tuple #[.agg #[.int .i64 0, .int .i64 0, .int .i64 0, .int .i64 0], .int .i64 4]) (by simp [results, Try.results12, go_sem, z0, z1, z2, z3]) rfl ⟨rfl, below_set4 hB (Nat.le_refl _)⟩
    · have hE' : suE s = 4 := by rw [suE, if_pos hr.1, if_pos hr.2, if_neg h6]
      have h6' : ((B.size : Int) == 6) = false := by rw [beq_eq_false_iff_ne, eB]; omega
      have hl : B.size ≤ 9223372036854775807 := by
        rw [eB, readB, if_pos hr.1]
        have hs4 : s.size ≤ 4096 := by
          by_cases hs : s.size ≤ 4096
          · exact hs
          · have := hr.1; rw [readE, if_neg hs] at this; omega
        unfold fB
        rw [ByteArray.size_extract, fullS_size hs4]
        omega
      rw [suG, suR, suM, suZ, hE', if_neg (by decide), if_neg (by decide), if_neg (by decide), if_neg (by decide)]
      clear hE' eB eG hK hG hBB hE eE h6 hr
      subst h0
      go_enter Try.func12, Try.ntmps12
      go_wp2_with (first
      | (go_at_call 23; refine (c1 _).mono ?_; rintro e w1 ⟨rfl, hb⟩; have R := (box4_cells hb).alloc (.cells #[.int .i64 K, .int .i64 G, .string B] 44); have hB := below_box hb; replace hB := hB.alloc hB.size (.cells #[.int .i64 K, .int .i64 G, .string B] 44); have P := box3_new w1 (.int .i64 K) (.int .i64 G) (.string B) 44; obtain ⟨⟨p0, p1, p2⟩, -⟩ := id P; obtain ⟨⟨r0, r1, r2, r3⟩, f0, f1, f2, f3⟩ := id R; clear hb)
        )
      obtain ⟨⟨z0, z1, z2, z3⟩, -⟩ := R.puts (.int .i64 0) (.int .i64 0) (.int .i64 0) (.int .i64 0)
      exact bodyPost_ret (v := .tuple #[.agg #[.int .i64 0, .int .i64 0, .int .i64 0, .int .i64 0], .int .i64 4]) (by simp [results, Try.results12, go_sem, z0, z1, z2, z3]) rfl ⟨rfl, below_set4 hB (Nat.le_refl _)⟩
  · have hE' : suE s = E := by
      rw [hE, eE, suE]
      rw [hE, eE] at h0
      by_cases a : readE s = 0
      · rw [if_pos a, if_pos a]
        rw [if_pos a] at h0
        by_cases b : readK s = 4
        · rw [if_pos b] at h0; exact absurd rfl h0
        · rw [if_neg b, if_neg b]
      · rw [if_neg a, if_neg a]
    rw [suG, suR, suM, suZ, hE', if_neg h0, if_neg h0, if_neg h0, if_neg h0]
    have h0' : (E == 0) = false := by simpa using h0
    clear hE' hK hG hBB hE eE
    go_enter Try.func12, Try.ntmps12
    go_wp2_with (first
      | (go_at_call 23; refine (c1 _).mono ?_; rintro e w1 ⟨rfl, hb⟩; have R := (box4_cells hb).alloc (.cells #[.int .i64 K, .int .i64 G, .string B] 44); have hB := below_box hb; replace hB := hB.alloc hB.size (.cells #[.int .i64 K, .int .i64 G, .string B] 44); have P := box3_new w1 (.int .i64 K) (.int .i64 G) (.string B) 44; obtain ⟨⟨p0, p1, p2⟩, -⟩ := id P; obtain ⟨⟨r0, r1, r2, r3⟩, f0, f1, f2, f3⟩ := id R; clear hb)
      )
    obtain ⟨⟨z0, z1, z2, z3⟩, -⟩ := R.puts (.int .i64 0) (.int .i64 0) (.int .i64 0) (.int .i64 0)
    exact bodyPost_ret (v := .tuple #[.agg #[.int .i64 0, .int .i64 0, .int .i64 0, .int .i64 0], .int .i64 E]) (by simp [results, Try.results12, go_sem, z0, z1, z2, z3]) rfl ⟨rfl, below_set4 hB (Nat.le_refl _)⟩

end Go.Proofs.Ytpjbikofomhcdaa

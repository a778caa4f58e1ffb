/-
  The document's own Right, Put, Get of superblocks.
-/
import Derived.Test.YtpjbikofomhcdaaSuperOwn
import Derived.Test.YtpjbikofomhcdaaPageRefGet
import Derived.Test.YtpjbikofomhcdaaAnychain
namespace Go.Proofs.Ytpjbikofomhcdaa
open Go.RowKit Plain Anylast
set_option linter.unusedVariables false

theorem rightSu_no {g r m z : Int} (h : ¬ ((1 ≤ g ∧ g ≤ 1099511627776) ∧ (24 ≤ z ∧ z ≤ 2048) ∧ (r = 0 ∨ (10 ≤ r ∧ r < z)) ∧ (10 ≤ m ∧ m < z) ∧ ¬ m = r)) : rightSu g r m z = false := decide_eq_false h

set_option maxHeartbeats 2000000 in
theorem refSuRight_any (g r m z : Int) (w : World) :
    Calls Try.prog 8 #[.agg #[.int .i64 g, .int .i64 r, .int .i64 m, .int .i64 z]] w fun e w' => e = .returned (.bool (rightSu g r m z)) ∧ Below w.heap.size w w' := by
  by_cases h1 : g < 1
  · rw [rightSu_no (by omega)]
    go_enter Try.func8, Try.ntmps8
    go_wp2
    go_ret
    exact ⟨ret_bool (by first | rfl | (simp <;> omega)), (Below.refl _ _).alloc (Nat.le_refl _) _⟩
  by_cases h2 : 1099511627776 < g
  · rw [rightSu_no (by omega)]
    go_enter Try.func8, Try.ntmps8
    go_wp2
    go_ret
    exact ⟨ret_bool (by first | rfl | (simp <;> omega)), (Below.refl _ _).alloc (Nat.le_refl _) _⟩
  by_cases h3 : z < 24
  · rw [rightSu_no (by omega)]
    go_enter Try.func8, Try.ntmps8
    go_wp2
    go_ret
    exact ⟨ret_bool (by first | rfl | (simp <;> omega)), (Below.refl _ _).alloc (Nat.le_refl _) _⟩
  by_cases h4 : 2048 < z
  · rw [rightSu_no (by omega)]
    go_enter Try.func8, Try.ntmps8
    go_wp2
    go_ret
    exact ⟨ret_bool (by first | rfl | (simp <;> omega)), (Below.refl _ _).alloc (Nat.le_refl _) _⟩
  by_cases h5 : r = 0
  · subst h5
    have h9 : (m == 0) = decide (m = 0) := rfl
    by_cases h6 : 10 ≤ m
    · have h7 : (m == 0) = false := by rw [beq_eq_false_iff_ne]; omega
      by_cases h8 : m < z
      · rw [show rightSu g 0 m z = true from (rightSu_iff _ _ _ _).2 (by omega)]
        clear h9
        go_enter Try.func8, Try.ntmps8
        go_wp2
        go_ret
        exact ⟨ret_bool (by first | rfl | (simp <;> omega)), (Below.refl _ _).alloc (Nat.le_refl _) _⟩
      · rw [rightSu_no (by omega)]
        clear h9
        go_enter Try.func8, Try.ntmps8
        go_wp2
        go_ret
        exact ⟨ret_bool (by first | rfl | (simp <;> omega)), (Below.refl _ _).alloc (Nat.le_refl _) _⟩
    · rw [rightSu_no (by omega)]
      clear h9
      go_enter Try.func8, Try.ntmps8
      go_wp2
      go_ret
      exact ⟨ret_bool (by first | rfl | (simp <;> omega)), (Below.refl _ _).alloc (Nat.le_refl _) _⟩
  have h5' : (r == 0) = false := by simpa using h5
  by_cases h6 : r < 10
  · rw [rightSu_no (by omega)]
    go_enter Try.func8, Try.ntmps8
    go_wp2
    go_ret
    exact ⟨ret_bool (by first | rfl | (simp <;> omega)), (Below.refl _ _).alloc (Nat.le_refl _) _⟩
  by_cases h7 : z ≤ r
  · rw [rightSu_no (by omega)]
    go_enter Try.func8, Try.ntmps8
    go_wp2
    go_ret
    exact ⟨ret_bool (by first | rfl | (simp <;> omega)), (Below.refl _ _).alloc (Nat.le_refl _) _⟩
  by_cases h8 : 10 ≤ m
  · by_cases h9 : m < z
    · by_cases h10 : m = r
      · rw [rightSu_no (by omega)]
        subst h10
        go_enter Try.func8, Try.ntmps8
        go_wp2
        go_ret
        exact ⟨ret_bool (by first | rfl | (simp <;> omega)), (Below.refl _ _).alloc (Nat.le_refl _) _⟩
      · rw [show rightSu g r m z = true from (rightSu_iff _ _ _ _).2 (by omega)]
        have h10' : (m == r) = false := by simpa using h10
        go_enter Try.func8, Try.ntmps8
        go_wp2
        go_ret
        exact ⟨ret_bool (by first | rfl | (simp <;> omega)), (Below.refl _ _).alloc (Nat.le_refl _) _⟩
    · rw [rightSu_no (by omega)]
      go_enter Try.func8, Try.ntmps8
      go_wp2
      go_ret
      exact ⟨ret_bool (by first | rfl | (simp <;> omega)), (Below.refl _ _).alloc (Nat.le_refl _) _⟩
  · rw [rightSu_no (by omega)]
    go_enter Try.func8, Try.ntmps8
    go_wp2
    go_ret
    exact ⟨ret_bool (by first | rfl | (simp <;> omega)), (Below.refl _ _).alloc (Nat.le_refl _) _⟩

/-- Six bytes: three numbers in two each. -/
theorem body_six {r m z : Nat} (hr : r ≤ 2048) (hm : m ≤ 2048) (hz : z ≤ 2048) :
    (((bodySu r m z).data.toList).map cellOf).toArray = #[.int .u8 ((r : Int) / 256), .int .u8 ((r : Int) % 256), .int .u8 ((m : Int) / 256), .int .u8 ((m : Int) % 256), .int .u8 ((z : Int) / 256), .int .u8 ((z : Int) % 256)] := by
  have e1 := put_two r (by omega)
  have e2 := put_two m (by omega)
  have e3 := put_two z (by omega)
  rw [bodySu, cat_data, putS_ok (small_ok (by omega) (by omega)), putS_ok (small_ok (by omega) (by omega)), putS_ok (small_ok (by omega) (by omega))]
  show (List.map cellOf [putL r 2, putL m 2, putL z 2].flatten).toArray = _
  apply Array.ext'
  have f1 := congrArg Array.toList e1
  have f2 := congrArg Array.toList e2
  have f3 := congrArg Array.toList e3
  simp only [List.flatten_cons, List.flatten_nil, List.append_nil, List.map_append] at *
  rw [f1, f2, f3]
  rfl

theorem bytes_again (b : ByteArray) : (⟨b.data.toList.toArray⟩ : ByteArray) = b := bytes_ext rfl

set_option maxHeartbeats 1000000 in
theorem refSuPut_any (g r m z : Int) (w : World) (h : rightSu g r m z = true) :
    Calls Try.prog 11 #[.agg #[.int .i64 g, .int .i64 r, .int .i64 m, .int .i64 z]] w fun e w' => e = .returned (.string (suS g r m z)) ∧ Below w.heap.size w w' := by
  obtain ⟨⟨r0, r1⟩, ⟨m0, m1⟩, z0, z1⟩ := rightSu_small h
  obtain ⟨r, rfl⟩ : ∃ n : Nat, r = n := ⟨r.toNat, by omega⟩
  obtain ⟨m, rfl⟩ : ∃ n : Nat, m = n := ⟨m.toNat, by omega⟩
  obtain ⟨z, rfl⟩ : ∃ n : Nat, z = n := ⟨z.toNat, by omega⟩
  have eS : suS g r m z = pageS 4 g (bodySu r m z) := by rw [suS, if_pos h]
  have c1 : ∀ W, Calls Try.prog 22 #[.agg #[.int .i64 4, .int .i64 g, .string (bodySu r m z)]] W fun e w' => e = .returned (.string (suS g r m z)) ∧ Below W.heap.size W w' := by
    intro W
    have := refPagePut_any 4 g (bodySu r m z) W (bodySu_page h)
    rwa [← eS] at this
  have hb6 : (bodySu r m z).data.toList.length = 6 := by rw [size_list]; exact bodySu_size h
  have hcv := fun W => conv_row W (bodySu r m z).data.toList 6 hb6 6
  rw [body_six (by omega) (by omega) (by omega)] at hcv
  obtain ⟨q, hq⟩ : ∃ q, q = suS g r m z := ⟨_, rfl⟩
  rw [← hq] at c1 ⊢
  rw [show (⟨(bodySu r m z).data.toList.toArray⟩ : ByteArray) = bodySu r m z from bytes_again _] at hcv
  obtain ⟨b, hb⟩ : ∃ b, b = bodySu r m z := ⟨_, rfl⟩
  rw [← hb] at c1 hcv
  clear hq eS h hb hb6
  replace hcv := hcv (w.alloc (.cells #[.int .i64 g, .int .i64 r, .int .i64 m, .int .i64 z] 23))
  simp only [World.size_alloc] at hcv
  go_enter Try.func11, Try.ntmps11
  go_wp2_with (go_at_call 22; refine (c1 _).mono ?_; rintro e w1 ⟨rfl, hb⟩)
  go_ret
  exact ⟨rfl, below_box (below_box hb)⟩


theorem byte_at (B : ByteArray) (k : Nat) (hk : k < B.size) : ∃ x : Int, 0 ≤ x ∧ x ≤ 255 ∧ ((B[k].toNat : Int) = x) ∧ ∀ W : World, (Instr.index 9 (.string B) (.int .i64 k)).run Try.prog W = .ok (.int .u8 x) W := by
  have hb := B[k].toNat_lt
  refine ⟨(B[k].toNat : Int), by omega, by omega, rfl, fun W => ?_⟩
  go_simp

def suV (h k : Nat) (G : Int) (B : ByteArray) (x0 x1 x2 x3 x4 x5 : Int) : Nat → Value
  | 0 => .pointer (some ⟨h, 1, none⟩)
  | 1 => .int .i64 G
  | 2 => .string B
  | 3 => .int .u8 x0
  | 4 => .int .i64 x0
  | 5 => .int .i64 (256 * x0)
  | 6 => .string B
  | 7 => .int .u8 x1
  | 8 => .int .i64 x1
  | 9 => .int .i64 (256 * x0 + x1)
  | 10 => .string B
  | 11 => .int .u8 x2
  | 12 => .int .i64 x2
  | 13 => .int .i64 (256 * x2)
  | 14 => .string B
  | 15 => .int .u8 x3
  | 16 => .int .i64 x3
  | 17 => .int .i64 (256 * x2 + x3)
  | 18 => .string B
  | 19 => .int .u8 x4
  | 20 => .int .i64 x4
  | 21 => .int .i64 (256 * x4)
  | 22 => .string B
  | 23 => .int .u8 x5
  | 24 => .int .i64 x5
  | 25 => .int .i64 (256 * x4 + x5)
  | 26 => .agg #[.int .i64 G, .int .i64 (256 * x0 + x1), .int .i64 (256 * x2 + x3), .int .i64 (256 * x4 + x5)]
  | 27 => .pointer (some ⟨k, 0, none⟩)
  | _ => undef

def worldsU (w0 w1 w2 : World) : Nat → World
  | 0 => w0
  | 1 => w1
  | _ => w2

set_option maxHeartbeats 4000000 in
theorem refSuGet_six (s : ByteArray) (w : World) (hs : s.size ≤ maxLen) (h1 : readE s = 0) (h2 : readK s = 4) (h3 : (readB s).size = 6) :
    Calls Try.prog 13 #[.string s] w fun e w' => e = .returned (.tuple #[.agg #[.int .i64 (suG s), .int .i64 (suR s), .int .i64 (suM s), .int .i64 (suZ s)], .int .i64 (suE s)]) ∧ Below w.heap.size w w' := by
  have c1 := fun W => refPageGet_any s W hs
  rw [h1, h2] at c1
  obtain ⟨G, hG⟩ : ∃ x, x = readG s := ⟨_, rfl⟩
  obtain ⟨B, hBB⟩ : ∃ x, x = readB s := ⟨_, rfl⟩
  rw [← hG, ← hBB] at c1
  rw [← hBB] at h3
  have k0 : 0 < B.size := by omega
  have k1 : 1 < B.size := by omega
  have k2 : 2 < B.size := by omega
  have k3 : 3 < B.size := by omega
  have k4 : 4 < B.size := by omega
  have k5 : 5 < B.size := by omega
  obtain ⟨x0, a0, b0, e0, i0⟩ := byte_at B 0 k0
  obtain ⟨x1, a1, b1, e1, i1⟩ := byte_at B 1 k1
  obtain ⟨x2, a2, b2, e2, i2⟩ := byte_at B 2 k2
  obtain ⟨x3, a3, b3, e3, i3⟩ := byte_at B 3 k3
  obtain ⟨x4, a4, b4, e4, i4⟩ := byte_at B 4 k4
  obtain ⟨x5, a5, b5, e5, i5⟩ := byte_at B 5 k5
  have h3' : (B.size : Int) = 6 := by omega
  have y0 : getV B 0 2 = 256 * x0 + x1 := by rw [getV_succ B 0 1 (by omega), getV_succ B 0 0 (by omega), ← e0, ← e1]; simp [getV]; omega
  have y1 : getV B 2 2 = 256 * x2 + x3 := by rw [getV_succ B 2 1 (by omega), getV_succ B 2 0 (by omega), ← e2, ← e3]; simp [getV]; omega
  have y2 : getV B 4 2 = 256 * x4 + x5 := by rw [getV_succ B 4 1 (by omega), getV_succ B 4 0 (by omega), ← e4, ← e5]; simp [getV]; omega
  have c3 := fun W => refSuRight_any G (256 * x0 + x1) (256 * x2 + x3) (256 * x4 + x5) W
  have hE' : suE s = if rightSu G (256 * x0 + x1) (256 * x2 + x3) (256 * x4 + x5) then 0 else 4 := by rw [suE, if_pos h1, if_pos h2, ← hBB, if_pos h3, ← hG, y0, y1, y2]
  have zG : suG s = if suE s = 0 then G else 0 := by rw [suG, hG]
  have zR : suR s = if suE s = 0 then 256 * x0 + x1 else 0 := by rw [suR, ← hBB, y0]
  have zM : suM s = if suE s = 0 then 256 * x2 + x3 else 0 := by rw [suM, ← hBB, y1]
  have zZ : suZ s = if suE s = 0 then 256 * x4 + x5 else 0 := by rw [suZ, ← hBB, y2]
  obtain ⟨rE, hrE⟩ : ∃ x, x = suE s := ⟨_, rfl⟩
  obtain ⟨rG, hrG⟩ : ∃ x, x = suG s := ⟨_, rfl⟩
  obtain ⟨rR, hrR⟩ : ∃ x, x = suR s := ⟨_, rfl⟩
  obtain ⟨rM, hrM⟩ : ∃ x, x = suM s := ⟨_, rfl⟩
  obtain ⟨rZ, hrZ⟩ : ∃ x, x = suZ s := ⟨_, rfl⟩
  rw [← hrE, ← hrG, ← hrR, ← hrM, ← hrZ]
  rw [← hrE] at hE' zG zR zM zZ
  rw [← hrG] at zG
  rw [← hrR] at zR
  rw [← hrM] at zM
  rw [← hrZ] at zZ
  replace hE' : Hid (rE = if rightSu G (256 * x0 + x1) (256 * x2 + x3) (256 * x4 + x5) then 0 else 4) := hE'
  replace zG : Hid (rG = if rE = 0 then G else 0) := zG
  replace zR : Hid (rR = if rE = 0 then 256 * x0 + x1 else 0) := zR
  replace zM : Hid (rM = if rE = 0 then 256 * x2 + x3 else 0) := zM
  replace zZ : Hid (rZ = if rE = 0 then 256 * x4 + x5 else 0) := zZ
  have ww0 : IntKind.i64.wrap x0 = x0 := i64_in _ (by omega) (by omega)
  have ww1 : IntKind.i64.wrap x1 = x1 := i64_in _ (by omega) (by omega)
  have ww2 : IntKind.i64.wrap x2 = x2 := i64_in _ (by omega) (by omega)
  have ww3 : IntKind.i64.wrap x3 = x3 := i64_in _ (by omega) (by omega)
  have ww4 : IntKind.i64.wrap x4 = x4 := i64_in _ (by omega) (by omega)
  have ww5 : IntKind.i64.wrap x5 = x5 := i64_in _ (by omega) (by omega)
  have v0 : IntKind.i64.wrap (256 * x0) = 256 * x0 := i64_in _ (by omega) (by omega)
  have u0 : IntKind.i64.wrap (256 * x0 + x1) = 256 * x0 + x1 := i64_in _ (by omega) (by omega)
  have v2 : IntKind.i64.wrap (256 * x2) = 256 * x2 := i64_in _ (by omega) (by omega)
  have u2 : IntKind.i64.wrap (256 * x2 + x3) = 256 * x2 + x3 := i64_in _ (by omega) (by omega)
  have v4 : IntKind.i64.wrap (256 * x4) = 256 * x4 := i64_in _ (by omega) (by omega)
  have u4 : IntKind.i64.wrap (256 * x4 + x5) = 256 * x4 + x5 := i64_in _ (by omega) (by omega)
  clear hG hBB h3 y0 y1 y2 hrE hrG hrR hrM hrZ h1 h2
  go_enter Try.func13, Try.ntmps13
  go_wp2_with (first
    | (go_at_call 25; refine (c1 _).mono ?_; rintro e w1 ⟨rfl, hb⟩; have R := (box4_cells hb).alloc (.cells #[.int .i64 4, .int .i64 G, .string B] 44); have hB := below_box hb; replace hB := hB.alloc hB.size (.cells #[.int .i64 4, .int .i64 G, .string B] 44); have P := box3_new w1 (.int .i64 4) (.int .i64 G) (.string B) 44; obtain ⟨⟨p0, p1, p2⟩, -⟩ := id P; obtain ⟨⟨r0, r1, r2, r3⟩, f0, f1, f2, f3⟩ := id R; clear hb))
  obtain ⟨V, hV⟩ : ∃ V, V = (w1.alloc (.cells #[.int .i64 4, .int .i64 G, .string B] 44)).drew := ⟨_, rfl⟩
  replace R : Box4 V w.heap.size (.int .i64 0) (.int .i64 0) (.int .i64 0) (.int .i64 0) := by rw [hV]; exact R.drew
  replace P : V.cell? ⟨w1.heap.size, 1, none⟩ = some (.int .i64 G) := by rw [hV]; exact p1
  replace hB : Below w.heap.size w V := by rw [hV]; exact hB.drew
  have P' : (V.alloc (.cells #[.int .i64 0, .int .i64 0, .int .i64 0, .int .i64 0] 23)).cell? ⟨w1.heap.size, 1, none⟩ = some (.int .i64 G) := cell_alloc P _
  have HV : Hid (V = (w1.alloc (.cells #[.int .i64 4, .int .i64 G, .string B] 44)).drew) := hV
  clear hV p0 p1 p2 r0 r1 r2 r3 f0 f1 f2 f3
  refine region_worlds (by kernel_rfl) [27, 28] (suV w1.heap.size V.heap.size G B x0 x1 x2 x3 x4 x5) (worldsU V (V.alloc (.cells #[.int .i64 0, .int .i64 0, .int .i64 0, .int .i64 0] 23)) (V.alloc (.cells #[.int .i64 G, .int .i64 (256 * x0 + x1), .int .i64 (256 * x2 + x3), .int .i64 (256 * x4 + x5)] 23))) (by kernel_rfl) (by kernel_rfl) HV.out.symm ?step 29 rfl ?done
  case step =>
    intro i o ho kk a2 hkk hmay hdf hsz hdep hsame
    match i, ho with
    | 0, ho =>
      cases ho
      have h4 := (hsame 4 rfl)
      exact val_op rfl (wanted_free rfl) (by clear hdep hsame hsz hdf; (try simp only [suV, worldsU]); go_simp) rfl rfl
    | 1, ho =>
      cases ho
      have h28 := (hdep 0 _ 28 rfl rfl rfl)
      simp only [suV] at h28
      match kk, hkk, hmay with
      | 0, _, hq => first | (cases hq; done) | (exact val_op rfl (wanted_free rfl) (by clear hdep hsame hsz hdf; (try simp only [suV, worldsU]); go_simp) rfl rfl)
      | 1, _, hq => first | (cases hq; done) | (exact val_op rfl (wanted_free rfl) (by clear hdep hsame hsz hdf; (try simp only [suV, worldsU]); go_simp) rfl rfl)
      | 2, _, hq => first | (cases hq; done) | (exact val_op rfl (wanted_free rfl) (by clear hdep hsame hsz hdf; (try simp only [suV, worldsU]); go_simp) rfl rfl)
      | kk + 3, hkk, _ => simp at hkk
    | 2, ho =>
      cases ho
      have h6 := (hsame 6 rfl)
      exact val_op rfl (wanted_free rfl) (by clear hdep hsame hsz hdf; (try simp only [suV, worldsU]); go_simp) rfl rfl
    | 3, ho =>
      cases ho
      have h30 := (hdep 2 _ 30 rfl rfl rfl)
      simp only [suV] at h30
      exact val_op rfl (wanted_free rfl) (by clear hdep hsame hsz hdf; (try simp only [suV, worldsU]); go_simp) rfl rfl
    | 4, ho =>
      cases ho
      have h31 := (hdep 3 _ 31 rfl rfl rfl)
      simp only [suV] at h31
      match kk, hkk, hmay with
      | 0, _, hq => first | (cases hq; done) | (exact val_op rfl (wanted_free rfl) (by clear hdep hsame hsz hdf; (try simp only [suV, worldsU]); go_simp) rfl rfl)
      | 1, _, hq => first | (cases hq; done) | (exact val_op rfl (wanted_free rfl) (by clear hdep hsame hsz hdf; (try simp only [suV, worldsU]); go_simp) rfl rfl)
      | 2, _, hq => first | (cases hq; done) | (exact val_op rfl (wanted_free rfl) (by clear hdep hsame hsz hdf; (try simp only [suV, worldsU]); go_simp) rfl rfl)
      | kk + 3, hkk, _ => simp at hkk
    | 5, ho =>
      cases ho
      have h32 := (hdep 4 _ 32 rfl rfl rfl)
      simp only [suV] at h32
      exact val_op rfl (wanted_free rfl) (by clear hdep hsame hsz hdf; (try simp only [suV, worldsU]); go_simp) rfl rfl
    | 6, ho =>
      cases ho
      have h6 := (hsame 6 rfl)
      exact val_op rfl (wanted_free rfl) (by clear hdep hsame hsz hdf; (try simp only [suV, worldsU]); go_simp) rfl rfl
    | 7, ho =>
      cases ho
      have h34 := (hdep 6 _ 34 rfl rfl rfl)
      simp only [suV] at h34
      exact val_op rfl (wanted_free rfl) (by clear hdep hsame hsz hdf; (try simp only [suV, worldsU]); go_simp) rfl rfl
    | 8, ho =>
      cases ho
      have h35 := (hdep 7 _ 35 rfl rfl rfl)
      simp only [suV] at h35
      match kk, hkk, hmay with
      | 0, _, hq => first | (cases hq; done) | (exact val_op rfl (wanted_free rfl) (by clear hdep hsame hsz hdf; (try simp only [suV, worldsU]); go_simp) rfl rfl)
      | 1, _, hq => first | (cases hq; done) | (exact val_op rfl (wanted_free rfl) (by clear hdep hsame hsz hdf; (try simp only [suV, worldsU]); go_simp) rfl rfl)
      | 2, _, hq => first | (cases hq; done) | (exact val_op rfl (wanted_free rfl) (by clear hdep hsame hsz hdf; (try simp only [suV, worldsU]); go_simp) rfl rfl)
      | kk + 3, hkk, _ => simp at hkk
    | 9, ho =>
      cases ho
      have h33 := (hdep 5 _ 33 rfl rfl rfl)
      have h36 := (hdep 8 _ 36 rfl rfl rfl)
      simp only [suV] at h33 h36
      exact val_op rfl (wanted_free rfl) (by clear hdep hsame hsz hdf; (try simp only [suV, worldsU]); go_simp) rfl rfl
    | 10, ho =>
      cases ho
      have h6 := (hsame 6 rfl)
      exact val_op rfl (wanted_free rfl) (by clear hdep hsame hsz hdf; (try simp only [suV, worldsU]); go_simp) rfl rfl
    | 11, ho =>
      cases ho
      have h38 := (hdep 10 _ 38 rfl rfl rfl)
      simp only [suV] at h38
      exact val_op rfl (wanted_free rfl) (by clear hdep hsame hsz hdf; (try simp only [suV, worldsU]); go_simp) rfl rfl
    | 12, ho =>
      cases ho
      have h39 := (hdep 11 _ 39 rfl rfl rfl)
      simp only [suV] at h39
      match kk, hkk, hmay with
      | 0, _, hq => first | (cases hq; done) | (exact val_op rfl (wanted_free rfl) (by clear hdep hsame hsz hdf; (try simp only [suV, worldsU]); go_simp) rfl rfl)
      | 1, _, hq => first | (cases hq; done) | (exact val_op rfl (wanted_free rfl) (by clear hdep hsame hsz hdf; (try simp only [suV, worldsU]); go_simp) rfl rfl)
      | 2, _, hq => first | (cases hq; done) | (exact val_op rfl (wanted_free rfl) (by clear hdep hsame hsz hdf; (try simp only [suV, worldsU]); go_simp) rfl rfl)
      | kk + 3, hkk, _ => simp at hkk
    | 13, ho =>
      cases ho
      have h40 := (hdep 12 _ 40 rfl rfl rfl)
      simp only [suV] at h40
      exact val_op rfl (wanted_free rfl) (by clear hdep hsame hsz hdf; (try simp only [suV, worldsU]); go_simp) rfl rfl
    | 14, ho =>
      cases ho
      have h6 := (hsame 6 rfl)
      exact val_op rfl (wanted_free rfl) (by clear hdep hsame hsz hdf; (try simp only [suV, worldsU]); go_simp) rfl rfl
    | 15, ho =>
      cases ho
      have h42 := (hdep 14 _ 42 rfl rfl rfl)
      simp only [suV] at h42
      exact val_op rfl (wanted_free rfl) (by clear hdep hsame hsz hdf; (try simp only [suV, worldsU]); go_simp) rfl rfl
    | 16, ho =>
      cases ho
      have h43 := (hdep 15 _ 43 rfl rfl rfl)
      simp only [suV] at h43
      match kk, hkk, hmay with
      | 0, _, hq => first | (cases hq; done) | (exact val_op rfl (wanted_free rfl) (by clear hdep hsame hsz hdf; (try simp only [suV, worldsU]); go_simp) rfl rfl)
      | 1, _, hq => first | (cases hq; done) | (exact val_op rfl (wanted_free rfl) (by clear hdep hsame hsz hdf; (try simp only [suV, worldsU]); go_simp) rfl rfl)
      | 2, _, hq => first | (cases hq; done) | (exact val_op rfl (wanted_free rfl) (by clear hdep hsame hsz hdf; (try simp only [suV, worldsU]); go_simp) rfl rfl)
      | kk + 3, hkk, _ => simp at hkk
    | 17, ho =>
      cases ho
      have h41 := (hdep 13 _ 41 rfl rfl rfl)
      have h44 := (hdep 16 _ 44 rfl rfl rfl)
      simp only [suV] at h41 h44
      exact val_op rfl (wanted_free rfl) (by clear hdep hsame hsz hdf; (try simp only [suV, worldsU]); go_simp) rfl rfl
    | 18, ho =>
      cases ho
      have h6 := (hsame 6 rfl)
      exact val_op rfl (wanted_free rfl) (by clear hdep hsame hsz hdf; (try simp only [suV, worldsU]); go_simp) rfl rfl
    | 19, ho =>
      cases ho
      have h46 := (hdep 18 _ 46 rfl rfl rfl)
      simp only [suV] at h46
      exact val_op rfl (wanted_free rfl) (by clear hdep hsame hsz hdf; (try simp only [suV, worldsU]); go_simp) rfl rfl
    | 20, ho =>
      cases ho
      have h47 := (hdep 19 _ 47 rfl rfl rfl)
      simp only [suV] at h47
      match kk, hkk, hmay with
      | 0, _, hq => first | (cases hq; done) | (exact val_op rfl (wanted_free rfl) (by clear hdep hsame hsz hdf; (try simp only [suV, worldsU]); go_simp) rfl rfl)
      | 1, _, hq => first | (cases hq; done) | (exact val_op rfl (wanted_free rfl) (by clear hdep hsame hsz hdf; (try simp only [suV, worldsU]); go_simp) rfl rfl)
      | 2, _, hq => first | (cases hq; done) | (exact val_op rfl (wanted_free rfl) (by clear hdep hsame hsz hdf; (try simp only [suV, worldsU]); go_simp) rfl rfl)
      | kk + 3, hkk, _ => simp at hkk
    | 21, ho =>
      cases ho
      have h48 := (hdep 20 _ 48 rfl rfl rfl)
      simp only [suV] at h48
      exact val_op rfl (wanted_free rfl) (by clear hdep hsame hsz hdf; (try simp only [suV, worldsU]); go_simp) rfl rfl
    | 22, ho =>
      cases ho
      have h6 := (hsame 6 rfl)
      exact val_op rfl (wanted_free rfl) (by clear hdep hsame hsz hdf; (try simp only [suV, worldsU]); go_simp) rfl rfl
    | 23, ho =>
      cases ho
      have h50 := (hdep 22 _ 50 rfl rfl rfl)
      simp only [suV] at h50
      exact val_op rfl (wanted_free rfl) (by clear hdep hsame hsz hdf; (try simp only [suV, worldsU]); go_simp) rfl rfl
    | 24, ho =>
      cases ho
      have h51 := (hdep 23 _ 51 rfl rfl rfl)
      simp only [suV] at h51
      match kk, hkk, hmay with
      | 0, _, hq => first | (cases hq; done) | (exact val_op rfl (wanted_free rfl) (by clear hdep hsame hsz hdf; (try simp only [suV, worldsU]); go_simp) rfl rfl)
      | 1, _, hq => first | (cases hq; done) | (exact val_op rfl (wanted_free rfl) (by clear hdep hsame hsz hdf; (try simp only [suV, worldsU]); go_simp) rfl rfl)
      | 2, _, hq => first | (cases hq; done) | (exact val_op rfl (wanted_free rfl) (by clear hdep hsame hsz hdf; (try simp only [suV, worldsU]); go_simp) rfl rfl)
      | kk + 3, hkk, _ => simp at hkk
    | 25, ho =>
      cases ho
      have h49 := (hdep 21 _ 49 rfl rfl rfl)
      have h52 := (hdep 24 _ 52 rfl rfl rfl)
      simp only [suV] at h49 h52
      exact val_op rfl (wanted_free rfl) (by clear hdep hsame hsz hdf; (try simp only [suV, worldsU]); go_simp) rfl rfl
    | 26, ho =>
      cases ho
      have h29 := (hdep 1 _ 29 rfl rfl rfl)
      have h37 := (hdep 9 _ 37 rfl rfl rfl)
      have h45 := (hdep 17 _ 45 rfl rfl rfl)
      have h53 := (hdep 25 _ 53 rfl rfl rfl)
      simp only [suV] at h29 h37 h45 h53
      exact val_op rfl (wanted_free rfl) (by clear hdep hsame hsz hdf; (try simp only [suV, worldsU]); go_simp) rfl rfl
    | 27, ho =>
      cases ho
      match kk, hkk, hmay with
      | 0, _, _ => exact val_op rfl (wanted_free rfl) (by clear hdep hsame hsz hdf; (try simp only [suV, worldsU]); go_simp) rfl rfl
      | 1, _, hq => cases hq
      | 2, _, hq => cases hq
      | kk + 3, hkk, _ => simp at hkk
    | 28, ho =>
      cases ho
      have h7 := (hdep 27 _ 7 rfl rfl rfl)
      have h54 := (hdep 26 _ 54 rfl rfl rfl)
      simp only [suV] at h7 h54
      match kk, hkk, hmay with
      | 0, _, hq => cases hq
      | 1, _, _ => exact val_skip rfl (wanted_free rfl) rfl (by clear hdep hsame hsz hdf; simp only [worldsU]; go_simp; try exact hst2.out) rfl
      | 2, _, hq => cases hq
      | kk + 3, hkk, _ => simp at hkk
    | kk + 29, ho => simp at ho
  case done =>
    simp [filledN, suV, worldsU]
    have T := box4_new V (.int .i64 G) (.int .i64 (256 * x0 + x1)) (.int .i64 (256 * x2 + x3)) (.int .i64 (256 * x4 + x5)) 23 rfl
    replace R := R.alloc (.cells #[.int .i64 G, .int .i64 (256 * x0 + x1), .int .i64 (256 * x2 + x3), .int .i64 (256 * x4 + x5)] 23)
    replace hB := hB.alloc hB.size (.cells #[.int .i64 G, .int .i64 (256 * x0 + x1), .int .i64 (256 * x2 + x3), .int .i64 (256 * x4 + x5)] 23)
    clear ww0 ww1 ww2 ww3 ww4 ww5 v0 v2 v4 u0 u2 u4 i0 i1 i2 i3 i4 i5 e0 e1 e2 e3 e4 e5 P P' HV
    generalize V.alloc (.cells #[.int .i64 G, .int .i64 (256 * x0 + x1), .int .i64 (256 * x2 + x3), .int .i64 (256 * x4 + x5)] 23) = U at T R hB ⊢
    generalize 256 * x0 + x1 = X at *
    generalize 256 * x2 + x3 = Y at *
    generalize 256 * x4 + x5 = Z at *
    cases hd : rightSu G X Y Z with
    | true =>
      rw [hd] at c3
      have hE'' := hE'.out
      rw [hd, if_pos rfl] at hE''
      obtain rfl := hE''
      obtain rfl : rG = G := zG.out
      obtain rfl : rR = X := zR.out
      obtain rfl : rM = Y := zM.out
      obtain rfl : rZ = Z := zZ.out
      clear hd hE' zG zR zM zZ
      obtain ⟨⟨t0, t1, t2, t3⟩, -⟩ := id T
      go_wp2_with (go_at_call 8; refine (c3 _).mono ?_; rintro e w3 ⟨rfl, hb⟩; replace R := R.below hb; replace T := T.below hb; replace hB := Below.tr hB hb; obtain ⟨⟨t0, t1, t2, t3⟩, -⟩ := id T; obtain ⟨⟨r0, r1, r2, r3⟩, f0, f1, f2, f3⟩ := id R; clear hb)
      obtain ⟨⟨z0, z1, z2, z3⟩, -⟩ := R.puts (.int .i64 rG) (.int .i64 rR) (.int .i64 rM) (.int .i64 rZ)
      exact bodyPost_ret (v := .tuple #[.agg #[.int .i64 rG, .int .i64 rR, .int .i64 rM, .int .i64 rZ], .int .i64 0]) (by simp [results, Try.results13, go_sem, z0, z1, z2, z3]) rfl ⟨rfl, below_set4 hB (Nat.le_refl _)⟩
    | false =>
      rw [hd] at c3
      have hE'' := hE'.out
      rw [hd, if_neg (by decide)] at hE''
      obtain rfl := hE''
      obtain rfl : rG = 0 := zG.out
      obtain rfl : rR = 0 := zR.out
      obtain rfl : rM = 0 := zM.out
      obtain rfl : rZ = 0 := zZ.out
      clear hd hE' zG zR zM zZ
      obtain ⟨⟨t0, t1, t2, t3⟩, -⟩ := id T
      go_wp2_with (go_at_call 8; refine (c3 _).mono ?_; rintro e w3 ⟨rfl, hb⟩; replace R := R.below hb; replace T := T.below hb; replace hB := Below.tr hB hb; obtain ⟨⟨t0, t1, t2, t3⟩, -⟩ := id T; obtain ⟨⟨r0, r1, r2, r3⟩, f0, f1, f2, f3⟩ := id R; clear hb)
      obtain ⟨⟨z0, z1, z2, z3⟩, -⟩ := R.puts (.int .i64 0) (.int .i64 0) (.int .i64 0) (.int .i64 0)
      exact bodyPost_ret (v := .tuple #[.agg #[.int .i64 0, .int .i64 0, .int .i64 0, .int .i64 0], .int .i64 4]) (by simp [results, Try.results13, go_sem, z0, z1, z2, z3]) rfl ⟨rfl, below_set4 hB (Nat.le_refl _)⟩

set_option maxHeartbeats 1000000 in
theorem refSuGet_any (s : ByteArray) (w : World) (hs : s.size ≤ maxLen) :
    Calls Try.prog 13 #[.string s] w fun e w' => e = .returned (.tuple #[.agg #[.int .i64 (suG s), .int .i64 (suR s), .int .i64 (suM s), .int .i64 (suZ s)], .int .i64 (suE s)]) ∧ Below w.heap.size w w' := by
  by_cases hall : readE s = 0 ∧ readK s = 4 ∧ (readB s).size = 6
  · exact refSuGet_six s w hs hall.1 hall.2.1 hall.2.2
  have hE0 : ¬ suE s = 0 := fun h => hall (by obtain ⟨a, b, c, _⟩ := suE_ok h; exact ⟨a, b, c⟩)
  rw [suG, suR, suM, suZ, if_neg hE0, if_neg hE0, if_neg hE0, if_neg hE0]
  have c1 := fun W => refPageGet_any s W hs
  obtain ⟨K, hK⟩ : ∃ x, x = readK s := ⟨_, rfl⟩
  obtain ⟨G, hG⟩ : ∃ x, x = readG s := ⟨_, rfl⟩
  obtain ⟨B, hBB⟩ : ∃ x, x = readB s := ⟨_, rfl⟩
  obtain ⟨E, hE⟩ : ∃ x, x = readE s := ⟨_, rfl⟩
  rw [← hK, ← hG, ← hBB, ← hE] at c1
  by_cases h0 : E = 0
  · by_cases h4 : K = 4
    · have h6 : ¬ B.size = 6 := fun h => hall ⟨hE ▸ h0, hK ▸ h4, hBB ▸ h⟩
      have hE' : suE s = 4 := by rw [suE, ← hE, if_pos h0, ← hK, if_pos h4, ← hBB, if_neg h6]
      have h6' : ((B.size : Int) == 6) = false := by rw [beq_eq_false_iff_ne]; omega
      have hl : B.size ≤ 9223372036854775807 := by
        rw [hBB, readB, if_pos (hE ▸ h0)]
        have hs4 : s.size ≤ 4096 := by
          by_cases hs : s.size ≤ 4096
          · exact hs
          · have : readE s = 0 := hE ▸ h0
            rw [readE, if_neg hs] at this; omega
        unfold fB
        rw [ByteArray.size_extract, fullS_size hs4]
        omega
      rw [hE']
      subst h0 h4
      clear hE' hE0 hall hK hG hBB hE h6
      go_enter Try.func13, Try.ntmps13
      go_wp2_with (first
      | (go_at_call 25; refine (c1 _).mono ?_; rintro e w1 ⟨rfl, hb⟩; have R := (box4_cells hb).alloc (.cells #[.int .i64 4, .int .i64 G, .string B] 44); have hB := below_box hb; replace hB := hB.alloc hB.size (.cells #[.int .i64 4, .int .i64 G, .string B] 44); have P := box3_new w1 (.int .i64 4) (.int .i64 G) (.string B) 44; obtain ⟨⟨p0, p1, p2⟩, -⟩ := id P; obtain ⟨⟨r0, r1, r2, r3⟩, f0, f1, f2, f3⟩ := id R; clear hb)
        )
      obtain ⟨⟨z0, z1, z2, z3⟩, -⟩ := R.puts (.int .i64 0) (.int .i64 0) (.int .i64 0) (.int .i64 0)
      exact bodyPost_ret (v := .tuple #[.agg #[.int .i64 0, .int .i64 0, .int .i64 0, .int .i64 0], .int .i64 4]) (by simp [results, Try.results13, go_sem, z0, z1, z2, z3]) rfl ⟨rfl, below_set4 hB (Nat.le_refl _)⟩
    · have hE' : suE s = 40 := by rw [suE, ← hE, if_pos h0, ← hK, if_neg h4]
      have h4' : (K == 4) = false := by simpa using h4
      rw [hE']
      subst h0
      clear hE' hE0 hall hK hG hBB hE
      go_enter Try.func13, Try.ntmps13
      go_wp2_with (first
      | (go_at_call 25; refine (c1 _).mono ?_; rintro e w1 ⟨rfl, hb⟩; have R := (box4_cells hb).alloc (.cells #[.int .i64 K, .int .i64 G, .string B] 44); have hB := below_box hb; replace hB := hB.alloc hB.size (.cells #[.int .i64 K, .int .i64 G, .string B] 44); have P := box3_new w1 (.int .i64 K) (.int .i64 G) (.string B) 44; obtain ⟨⟨p0, p1, p2⟩, -⟩ := id P; obtain ⟨⟨r0, r1, r2, r3⟩, f0, f1, f2, f3⟩ := id R; clear hb)
        )
      obtain ⟨⟨z0, z1, z2, z3⟩, -⟩ := R.puts (.int .i64 0) (.int .i64 0) (.int .i64 0) (.int .i64 0)
      exact bodyPost_ret (v := .tuple #[.agg #[.int .i64 0, .int .i64 0, .int .i64 0, .int .i64 0], .int .i64 40]) (by simp [results, Try.results13, go_sem, z0, z1, z2, z3]) rfl ⟨rfl, below_set4 hB (Nat.le_refl _)⟩
  · have hE' : suE s = E := by rw [suE, ← hE, if_neg h0]
    have h0' : (E == 0) = false := by simpa using h0
    rw [hE']
    clear hE' hE0 hall hK hG hBB hE
    go_enter Try.func13, Try.ntmps13
    go_wp2_with (first
      | (go_at_call 25; refine (c1 _).mono ?_; rintro e w1 ⟨rfl, hb⟩; have R := (box4_cells hb).alloc (.cells #[.int .i64 K, .int .i64 G, .string B] 44); have hB := below_box hb; replace hB := hB.alloc hB.size (.cells #[.int .i64 K, .int .i64 G, .string B] 44); have P := box3_new w1 (.int .i64 K) (.int .i64 G) (.string B) 44; obtain ⟨⟨p0, p1, p2⟩, -⟩ := id P; obtain ⟨⟨r0, r1, r2, r3⟩, f0, f1, f2, f3⟩ := id R; clear hb)
      )
    obtain ⟨⟨z0, z1, z2, z3⟩, -⟩ := R.puts (.int .i64 0) (.int .i64 0) (.int .i64 0) (.int .i64 0)
    exact bodyPost_ret (v := .tuple #[.agg #[.int .i64 0, .int .i64 0, .int .i64 0, .int .i64 0], .int .i64 E]) (by simp [results, Try.results13, go_sem, z0, z1, z2, z3]) rfl ⟨rfl, below_set4 hB (Nat.le_refl _)⟩

end Go.Proofs.Ytpjbikofomhcdaa

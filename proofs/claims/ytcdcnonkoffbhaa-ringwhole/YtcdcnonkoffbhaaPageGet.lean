/-
  Package page's parts and Get.
-/
import Derived.Test.YtcdcnonkoffbhaaPagePut
import Derived.Test.YtcdcnonkoffbhaaGet
namespace Go.Proofs.Ytcdcnonkoffbhaa
open Go.RowKit Plain
set_option linter.unusedVariables false

/-- A box of three cells behind a store of all three. -/
theorem set3_cells {w1 : World} {h : Nat} {v0 v1 v2 u0 u1 u2 : Value} (q0 : w1.cell? ⟨h, 0, none⟩ = some u0) (q1 : w1.cell? ⟨h, 1, none⟩ = some u1) (q2 : w1.cell? ⟨h, 2, none⟩ = some u2) :
    (((w1.setCell ⟨h, 0, none⟩ v0).setCell ⟨h, 1, none⟩ v1).setCell ⟨h, 2, none⟩ v2).cell? ⟨h, 0, none⟩ = some v0 ∧
    (((w1.setCell ⟨h, 0, none⟩ v0).setCell ⟨h, 1, none⟩ v1).setCell ⟨h, 2, none⟩ v2).cell? ⟨h, 1, none⟩ = some v1 ∧
    (((w1.setCell ⟨h, 0, none⟩ v0).setCell ⟨h, 1, none⟩ v1).setCell ⟨h, 2, none⟩ v2).cell? ⟨h, 2, none⟩ = some v2 := by
  refine ⟨?_, ?_, ?_⟩
  · rw [World.cell?_setCell_other _ _ _ _ (fun hh => by cases hh), World.cell?_setCell_other _ _ _ _ (fun hh => by cases hh)]
    exact World.cell?_setCell_same _ _ _ q0
  · rw [World.cell?_setCell_other _ _ _ _ (fun hh => by cases hh)]
    refine World.cell?_setCell_same _ _ _ (u := u1) ?_
    rw [World.cell?_setCell_other _ _ _ _ (fun hh => by cases hh)]
    exact q1
  · refine World.cell?_setCell_same _ _ _ (u := u2) ?_
    rw [World.cell?_setCell_other _ _ _ _ (fun hh => by cases hh), World.cell?_setCell_other _ _ _ _ (fun hh => by cases hh)]
    exact q2

theorem below_set3 {w w1 : World} {h : Nat} {v0 v1 v2 : Value} (hB : Below w.heap.size w w1) (hh : w.heap.size ≤ h) :
    Below w.heap.size w (((w1.setCell ⟨h, 0, none⟩ v0).setCell ⟨h, 1, none⟩ v1).setCell ⟨h, 2, none⟩ v2) :=
  ((hB.setCell (p := ⟨h, 0, none⟩) hh _).setCell (p := ⟨h, 1, none⟩) hh _).setCell (p := ⟨h, 2, none⟩) hh _

theorem Box3.alloc {w : World} {h : Nat} {v0 v1 v2 : Value} (b : Box3 w h v0 v1 v2) (o : Obj) : Box3 (w.alloc o) h v0 v1 v2 :=
  b.below ((Below.refl _ _).alloc (Nat.le_refl _) _)

set_option maxHeartbeats 400000 in
theorem parts_ok (t : ByteArray) (m : Nat) (w : World) (hm : m ≤ 4000) (ht : t.size = 9 + m) (hv : getV t 7 2 = m) :
    Calls Try.prog 77 #[.string t] w fun e w' => e = .returned (.agg #[.int .i64 (getV t 0 1), .int .i64 (getV t 1 6), .string (t.extract 9 (9 + m))]) ∧ Below w.heap.size w w' := by
  have hs : t.size ≤ maxLen := by unfold maxLen; omega
  have c1 : ∀ W, Calls Try.prog 31 #[.string t, .int .i64 0, .int .i64 1] W fun e w' => ∃ v, e = .returned (.tuple #[.int .i64 (getV t 0 1), .int .i64 1, .int .i64 v]) ∧ W = w' := by
    intro W
    have e : getE t 0 1 = 0 := getE_zero ⟨by omega, by omega, by omega, by omega⟩
    refine (get_any t 0 1 W hs).mono fun ee w' ⟨he, hb⟩ => ⟨0, ?_, hb⟩
    rw [he, getR, getT, e]; rfl
  have c2 : ∀ W, Calls Try.prog 31 #[.string t, .int .i64 1, .int .i64 6] W fun e w' => ∃ v, e = .returned (.tuple #[.int .i64 (getV t 1 6), .int .i64 7, .int .i64 v]) ∧ W = w' := by
    intro W
    have e : getE t 1 6 = 0 := getE_zero ⟨by omega, by omega, by omega, by omega⟩
    refine (get_any t 1 6 W hs).mono fun ee w' ⟨he, hb⟩ => ⟨0, ?_, hb⟩
    rw [he, getR, getT, e]; rfl
  have c3 : ∀ W, Calls Try.prog 61 #[.string t, .int .i64 7] W fun e w' => ∃ u v, e = .returned (.tuple #[.string (t.extract 9 (9 + m)), .int .i64 u, .int .i64 v]) ∧ W = w' := by
    intro W
    have e : getE t 7 2 = 0 := getE_zero ⟨by omega, by omega, by omega, by omega⟩
    have hv' : getV t (7 : Int).toNat 2 = m := hv
    have e2 : cutE t 7 = 0 := by
      rw [cutE, if_pos e, hv', if_neg (by omega)]
    have e3 : cutS t 7 = t.extract 9 (9 + m) := by
      rw [cutS, if_pos e2, hv']
      have t1 : ((7 : Int) + 2).toNat = 9 := rfl
      have t2 : ((7 : Int) + 2 + (m : Int)).toNat = 9 + m := by omega
      rw [t1, t2]
    refine (cut_any t 7 W hs).mono fun ee w' ⟨he, hb⟩ => ⟨cutT t 7, 0, ?_, hb⟩
    rw [he, e2, e3]
  obtain ⟨K, hK⟩ : ∃ K, K = getV t 0 1 := ⟨_, rfl⟩
  obtain ⟨G, hG⟩ : ∃ G, G = getV t 1 6 := ⟨_, rfl⟩
  obtain ⟨B, hB⟩ : ∃ B, B = t.extract 9 (9 + m) := ⟨_, rfl⟩
  rw [← hK] at c1 ⊢
  rw [← hG] at c2 ⊢
  rw [← hB] at c3 ⊢
  clear hK hG hB hv ht hs
  have tok1 : True := trivial
  go_enter Try.func77, Try.ntmps77
  go_wp2_with (first
    | (go_at_call 31; have _t := tok1; refine (c1 _).mono ?_; rintro e w2 ⟨v1, rfl, rfl⟩; clear tok1)
    | (go_at_call 31; refine (c2 _).mono ?_; rintro e w2 ⟨v2, rfl, rfl⟩)
    | (go_at_call 61; refine (c3 _).mono ?_; rintro e w2 ⟨v3, v4, rfl, rfl⟩))
  exact bodyPost_ret (v := .agg #[.int .i64 K, .int .i64 G, .string B]) (by simp [results, Try.results77, go_sem]) rfl ⟨rfl, (Below.refl _ _).alloc (Nat.le_refl _) _⟩

theorem str_some {a : ByteArray} (h : ¬ a = ⟨#[]⟩) : a.toList.isEmpty = false := by
  rw [Bool.eq_false_iff]
  intro hh
  have h3 : (⟨#[]⟩ : ByteArray).toList = [] := by simp
  have h2 := str_eq_false h
  rw [List.isEmpty_iff.1 hh, h3] at h2
  exact absurd h2 (by decide)

/-- What Get asks of a whole block, and is told. -/
theorem openE_front {F : ByteArray} (hF : F.size = 4096) (hn : fN F ≤ 4000) :
    openE (F.extract 0 (13 + fN F)) = (if fSealed F then 0 else 41) ∧ (fSealed F → openS (F.extract 0 (13 + fN F)) = F.extract 0 (9 + fN F)) := by
  have hz : (F.extract 0 (13 + fN F)).size = 13 + fN F := by rw [extract_size' _ _ _ (by omega) (by omega)]; omega
  have hh : headS (F.extract 0 (13 + fN F)) = F.extract 0 (9 + fN F) := by
    unfold headS
    rw [hz]
    apply bytes_ext
    rw [extract_data', extract_data', extract_data', List.drop_zero, List.drop_zero, List.take_take]
    congr 1
    omega
  have hk : fSealed F ↔ tailS (F.extract 0 (13 + fN F)) = le4S (ofS (headS (F.extract 0 (13 + fN F)))) := by
    rw [← sealed_head _ (by rw [hz]; omega), hh]
    exact fSealed_iff F
  have he : openE (F.extract 0 (13 + fN F)) = (if fSealed F then 0 else 41) := by
    unfold openE
    rw [if_neg (by rw [hz]; omega)]
    by_cases h : fSealed F
    · rw [if_pos h, if_pos (hk.1 h)]
    · rw [if_neg h, if_neg (fun hh => h (hk.2 hh))]
  refine ⟨he, fun h => ?_⟩
  rw [openS, he, if_pos h, if_pos rfl, hh]

theorem getR_size {F : ByteArray} (hF : F.size = 4096) : getR F 7 2 = fN F := by
  have e : getE F 7 2 = 0 := getE_zero ⟨by omega, by omega, by omega, by omega⟩
  rw [getR, if_pos e]
  show getV F 7 2 = _
  have := (getV_bd F 7 2).1
  unfold fN; omega

/-- What is told of a whole block. -/
def fullK (F : ByteArray) : Int := if fE F = 0 then fK F else 0
def fullG (F : ByteArray) : Int := if fE F = 0 then fG F else 0
def fullB (F : ByteArray) : ByteArray := if fE F = 0 then fB F else ⟨#[]⟩

set_option maxHeartbeats 2000000 in
theorem pageGet_long (s : ByteArray) (w : World) (hs : s.size ≤ maxLen) (h : ¬ s.size ≤ 4096) :
    Calls Try.prog 53 #[.string s] w fun e w' => e = .returned (.tuple #[.agg #[.int .i64 0, .int .i64 0, .string ⟨#[]⟩], .int .i64 1]) ∧ Below w.heap.size w w' := by
  have c1 : ∀ W, Calls Try.prog 75 #[.string s, .int .i64 4096] W fun e w' => ∃ v, e = .returned (.tuple #[.string v, .int .i64 2]) ∧ Below W.heap.size W w' := by
    intro W
    have e : padE s 4096 = 2 := by
      unfold padE
      rw [if_pos ⟨by omega, by omega⟩, if_neg (by omega)]
    refine (pad_any s 4096 W hs).mono fun ee w' ⟨he, hb⟩ => ⟨padS s 4096, ?_, hb⟩
    rw [he, e]
  go_enter Try.func53, Try.ntmps53
  go_wp2_with (first
    | (go_at_call 75; refine (c1 _).mono ?_; rintro e w1 ⟨v, rfl, hb⟩; obtain ⟨⟨q0, q1, q2⟩, f0, f1, f2⟩ := (box3_new _ _ _ _ _).below hb; have hB := below_box hb; clear hb))
  obtain ⟨z0, z1, z2⟩ := set3_cells (v0 := .int .i64 0) (v1 := .int .i64 0) (v2 := .string ⟨#[]⟩) q0 q1 q2
  exact bodyPost_ret (v := .tuple #[.agg #[.int .i64 0, .int .i64 0, .string ⟨#[]⟩], .int .i64 1]) (by simp [results, Try.results53, go_sem, z0, z1, z2]) rfl ⟨rfl, below_set3 hB (Nat.le_refl _)⟩

set_option maxHeartbeats 4000000 in
theorem pageGet_short (s : ByteArray) (w : World) (h : s.size ≤ 4096) :
    Calls Try.prog 53 #[.string s] w fun e w' => e = .returned (.tuple #[.agg #[.int .i64 (fullK (fullS s)), .int .i64 (fullG (fullS s)), .string (fullB (fullS s))], .int .i64 (fE (fullS s))]) ∧ Below w.heap.size w w' := by
  have hs : s.size ≤ maxLen := by unfold maxLen; omega
  have hF := fullS_size h
  obtain ⟨F, hFe⟩ : ∃ F, F = fullS s := ⟨_, rfl⟩
  rw [← hFe] at hF ⊢
  have c1 : ∀ W, Calls Try.prog 75 #[.string s, .int .i64 4096] W fun e w' => e = .returned (.tuple #[.string F, .int .i64 0]) ∧ Below W.heap.size W w' := by
    intro W
    have e : padE s 4096 = 0 := by
      unfold padE
      rw [if_pos ⟨by omega, by omega⟩, if_pos (by omega)]
    refine (pad_any s 4096 W hs).mono fun ee w' ⟨he, hb⟩ => ⟨?_, hb⟩
    rw [he, e, hFe, padS, if_pos e]; rfl
  have hFm : F.size ≤ maxLen := by unfold maxLen; omega
  obtain ⟨n, hn⟩ : ∃ n, n = fN F := ⟨_, rfl⟩
  have c2 : ∀ W, Calls Try.prog 31 #[.string F, .int .i64 7, .int .i64 2] W fun e w' => ∃ v u, e = .returned (.tuple #[.int .i64 n, .int .i64 v, .int .i64 u]) ∧ W = w' := by
    intro W
    refine (get_any F 7 2 W hFm).mono fun ee w' ⟨he, hb⟩ => ⟨getT F 7 2, getE F 7 2, ?_, hb⟩
    rw [he, getR_size hF, hn]
  by_cases h1 : 4000 < n
  · have hE : Hid (fE F = 4) := by show _ = _; unfold fE; rw [if_pos (by omega)]
    have hK : Hid (fullK F = 0) := by show _ = _; unfold fullK; rw [hE.out]; rfl
    have hG : Hid (fullG F = 0) := by show _ = _; unfold fullG; rw [hE.out]; rfl
    have hBB : Hid (fullB F = ⟨#[]⟩) := by show _ = _; unfold fullB; rw [hE.out]; rfl
    have h1' : (4000 : Int) < n := by omega
    clear hF hn hFe
    go_enter Try.func53, Try.ntmps53
    go_wp2_with (first
      | (go_at_call 75; refine (c1 _).mono ?_; rintro e w1 ⟨rfl, hb⟩; obtain ⟨⟨q0, q1, q2⟩, f0, f1, f2⟩ := (box3_new _ _ _ _ _).below hb; have hB := below_box hb; clear hb)
      | (go_at_call 31; refine (c2 _).mono ?_; rintro e w2 ⟨v, u, rfl, rfl⟩))
    obtain ⟨z0, z1, z2⟩ := set3_cells (v0 := .int .i64 0) (v1 := .int .i64 0) (v2 := .string ⟨#[]⟩) q0 q1 q2
    exact bodyPost_ret (v := .tuple #[.agg #[.int .i64 0, .int .i64 0, .string ⟨#[]⟩], .int .i64 4]) (by simp [results, Try.results53, go_sem, z0, z1, z2]) rfl ⟨by rw [hE.out, hK.out, hG.out, hBB.out], below_set3 hB (Nat.le_refl _)⟩
  · obtain ⟨o1, o2⟩ := openE_front hF (by omega)
    rw [← hn] at o1 o2
    have hT : (F.extract 0 (13 + n)).size ≤ maxLen := by rw [ByteArray.size_extract]; unfold maxLen; omega
    have hn4 : n ≤ 4000 := by omega
    have n13 : 9 + n + 4 = 13 + n := by omega
    by_cases h2 : fSealed F
    · have o3 := o2 h2
      rw [if_pos h2] at o1
      obtain ⟨t, ht⟩ : ∃ t, t = F.extract 0 (9 + n) := ⟨_, rfl⟩
      have c3 : ∀ W, Calls Try.prog 76 #[.string (F.extract 0 (9 + n + 4))] W fun e w' => e = .returned (.tuple #[.string t, .int .i64 0]) ∧ Below W.heap.size W w' := by
        intro W
        rw [n13]
        refine (open_any _ W hT).mono fun ee w' ⟨he, hb⟩ => ⟨?_, hb⟩
        rw [he, o1, o3, ht]
      obtain ⟨K, hKe⟩ : ∃ K, K = fK F := ⟨_, rfl⟩
      obtain ⟨G, hGe⟩ : ∃ G, G = fG F := ⟨_, rfl⟩
      obtain ⟨B, hBe⟩ : ∃ B, B = fB F := ⟨_, rfl⟩
      have c4 : ∀ W, Calls Try.prog 77 #[.string t] W fun e w' => e = .returned (.agg #[.int .i64 K, .int .i64 G, .string B]) ∧ Below W.heap.size W w' := by
        intro W
        have tz : t.size = 9 + n := by rw [ht, extract_size' _ _ _ (by omega) (by omega)]; omega
        have tv : getV t 7 2 = n := by
          rw [ht, getV_front _ _ _ _ (by omega), hn]
          have := (getV_bd F 7 2).1
          unfold fN; omega
        refine (parts_ok t n W hn4 tz tv).mono fun ee w' ⟨he, hb⟩ => ⟨?_, hb⟩
        rw [he, ht, getV_front _ _ _ _ (by omega), getV_front _ _ _ _ (by omega), hKe, hGe, hBe]
        have : (F.extract 0 (9 + n)).extract 9 (9 + n) = fB F := by
          unfold fB
          rw [← hn]
          apply bytes_ext
          rw [extract_data', extract_data', extract_data', List.drop_zero, Nat.sub_zero, List.drop_take, List.take_take, Nat.min_self]
        rw [this]; rfl
      have c5 := fun W => isKind_any K W
      have c6 := fun W => isGen_any G W
      obtain ⟨R, hRe⟩ : ∃ R, R = trimS (fRest F) := ⟨_, rfl⟩
      have c7 : ∀ W, Calls Try.prog 46 #[.string (F.extract (9 + n + 4) F.size)] W fun e w' => e = .returned (.string R) ∧ W = w' := by
        intro W
        rw [n13]
        have := trim_any (fRest F) W (by unfold fRest; rw [ByteArray.size_extract]; unfold maxLen; omega)
        rw [← hRe] at this
        unfold fRest at this
        rwa [← hn] at this
      have hG0 : 0 ≤ G := by rw [hGe]; exact (getV_bd F 1 6).1
      obtain ⟨x, hx⟩ : ∃ x, x = isKind K := ⟨_, rfl⟩
      obtain ⟨y, hy⟩ : ∃ y, y = isGen G := ⟨_, rfl⟩
      have hx' : x = true ↔ (1 ≤ K ∧ K ≤ 5) := by rw [hx]; simp [isKind]
      have hy' : y = true ↔ G ≤ 1099511627776 := by rw [hy]; simp [isGen, hG0]
      rw [← hx] at c5
      rw [← hy] at c6
      have hFE : fE F = if x = true then (if y = true ∧ R = ⟨#[]⟩ then 0 else 4) else 40 := by
        unfold fE
        rw [if_neg (by omega), if_pos h2, ← hKe, ← hGe, ← hRe]
        by_cases a : x = true
        · rw [if_pos (hx'.1 a), if_pos a]
          by_cases b : y = true
          · simp only [b, true_and, hy'.1 b]
          · rw [if_neg (fun hh => b (hy'.2 hh.1)), if_neg (fun hh => b hh.1)]
        · rw [if_neg (fun hh => a (hx'.2 hh)), if_neg a]
      have hB0 : Below w.heap.size w w := Below.refl _ _
      have hFz : Hid (F.size = 4096) := hF
      have hF4 : 4096 ≤ F.size := by omega
      have hFu : F.size ≤ 4096 := by omega
      clear hF hn hFe o1 o2 o3 ht hRe hx hy hx' hy' n13
      have hKF : fullK F = if (if x = true then (if y = true ∧ R = ⟨#[]⟩ then (0 : Int) else 4) else 40) = 0 then K else 0 := by unfold fullK; rw [hFE, hKe]
      have hGF : fullG F = if (if x = true then (if y = true ∧ R = ⟨#[]⟩ then (0 : Int) else 4) else 40) = 0 then G else 0 := by unfold fullG; rw [hFE, hGe]
      have hBF : fullB F = if (if x = true then (if y = true ∧ R = ⟨#[]⟩ then (0 : Int) else 4) else 40) = 0 then B else ⟨#[]⟩ := by unfold fullB; rw [hFE, hBe]
      rw [hFE, hKF, hGF, hBF]
      clear hFE hKF hGF hBF hKe hGe hBe h2 hT
      obtain ⟨rE, hrE⟩ : ∃ r, r = (if x = true then (if y = true ∧ R = ⟨#[]⟩ then (0 : Int) else 4) else 40) := ⟨_, rfl⟩
      rw [← hrE]
      obtain ⟨rK, hrK⟩ : ∃ r, r = if rE = 0 then K else 0 := ⟨_, rfl⟩
      obtain ⟨rG, hrG⟩ : ∃ r, r = if rE = 0 then G else 0 := ⟨_, rfl⟩
      obtain ⟨rB, hrB⟩ : ∃ r, r = if rE = 0 then B else ⟨#[]⟩ := ⟨_, rfl⟩
      rw [← hrK, ← hrG, ← hrB]
      have hFm' : F.size ≤ 9223372036854775807 := hFm
      cases x
      · have e1 : rE = 40 := by rw [hrE]; simp
        have e2 : rK = 0 := by rw [hrK, e1]; rfl
        have e3 : rG = 0 := by rw [hrG, e1]; rfl
        have e4 : rB = ⟨#[]⟩ := by rw [hrB, e1]; rfl
        rw [e1, e2, e3, e4]
        clear hrE hrK hrG hrB e1 e2 e3 e4
        go_enter Try.func53, Try.ntmps53
        go_wp2_with (first
          | (go_at_call 75; refine (c1 _).mono ?_; rintro e w1 ⟨rfl, hb⟩; have Q := (box3_new _ _ _ _ _).below hb; have hB := below_box hb; clear hb)
          | (go_at_call 31; refine (c2 _).mono ?_; rintro e w2 ⟨v, u, rfl, rfl⟩)
          | (go_at_call 76; refine (c3 _).mono ?_; rintro e w3 ⟨rfl, hb⟩; replace Q := Q.below hb; replace hB := Below.tr hB hb; clear hb)
          | (go_at_call 77; refine (c4 _).mono ?_; rintro e w4 ⟨rfl, hb⟩; replace Q := (Q.below hb).alloc (.cells #[.int .i64 K, .int .i64 G, .string B] 57); obtain ⟨⟨q0, q1, q2⟩, f0, f1, f2⟩ := Q; replace hB := Below.tr hB hb; clear hb)
          | (go_at_call 66; refine (c5 _).mono ?_; rintro e w5 ⟨rfl, rfl⟩)
          | (go_at_call 67; refine (c6 _).mono ?_; rintro e w6 ⟨rfl, rfl⟩)
          | (go_at_call 46; refine (c7 _).mono ?_; rintro e w7 ⟨rfl, rfl⟩))
        obtain ⟨z0, z1, z2⟩ := set3_cells (v0 := .int .i64 0) (v1 := .int .i64 0) (v2 := .string ⟨#[]⟩) q0 q1 q2
        exact bodyPost_ret (v := .tuple #[.agg #[.int .i64 0, .int .i64 0, .string ⟨#[]⟩], .int .i64 40]) (by simp [results, Try.results53, go_sem, z0, z1, z2]) rfl ⟨rfl, below_set3 (hB.alloc hB.size _) (Nat.le_refl _)⟩
      · cases y
        · have e1 : rE = 4 := by rw [hrE]; simp
          have e2 : rK = 0 := by rw [hrK, e1]; rfl
          have e3 : rG = 0 := by rw [hrG, e1]; rfl
          have e4 : rB = ⟨#[]⟩ := by rw [hrB, e1]; rfl
          rw [e1, e2, e3, e4]
          clear hrE hrK hrG hrB e1 e2 e3 e4
          go_enter Try.func53, Try.ntmps53
          go_wp2_with (first
            | (go_at_call 75; refine (c1 _).mono ?_; rintro e w1 ⟨rfl, hb⟩; have Q := (box3_new _ _ _ _ _).below hb; have hB := below_box hb; clear hb)
            | (go_at_call 31; refine (c2 _).mono ?_; rintro e w2 ⟨v, u, rfl, rfl⟩)
            | (go_at_call 76; refine (c3 _).mono ?_; rintro e w3 ⟨rfl, hb⟩; replace Q := Q.below hb; replace hB := Below.tr hB hb; clear hb)
            | (go_at_call 77; refine (c4 _).mono ?_; rintro e w4 ⟨rfl, hb⟩; replace Q := (Q.below hb).alloc (.cells #[.int .i64 K, .int .i64 G, .string B] 57); obtain ⟨⟨q0, q1, q2⟩, f0, f1, f2⟩ := Q; replace hB := Below.tr hB hb; clear hb)
            | (go_at_call 66; refine (c5 _).mono ?_; rintro e w5 ⟨rfl, rfl⟩)
            | (go_at_call 67; refine (c6 _).mono ?_; rintro e w6 ⟨rfl, rfl⟩)
            | (go_at_call 46; refine (c7 _).mono ?_; rintro e w7 ⟨rfl, rfl⟩))
          obtain ⟨z0, z1, z2⟩ := set3_cells (v0 := .int .i64 0) (v1 := .int .i64 0) (v2 := .string ⟨#[]⟩) q0 q1 q2
          exact bodyPost_ret (v := .tuple #[.agg #[.int .i64 0, .int .i64 0, .string ⟨#[]⟩], .int .i64 4]) (by simp [results, Try.results53, go_sem, z0, z1, z2]) rfl ⟨rfl, below_set3 (hB.alloc hB.size _) (Nat.le_refl _)⟩
        · by_cases hR : R = ⟨#[]⟩
          · have e1 : rE = 0 := by rw [hrE, hR]; simp
            have e2 : rK = K := by rw [hrK, e1]; rfl
            have e3 : rG = G := by rw [hrG, e1]; rfl
            have e4 : rB = B := by rw [hrB, e1]; rfl
            rw [e1, e2, e3, e4]
            clear hrE hrK hrG hrB e1 e2 e3 e4
            subst hR
            go_enter Try.func53, Try.ntmps53
            go_wp2_with (first
              | (go_at_call 75; refine (c1 _).mono ?_; rintro e w1 ⟨rfl, hb⟩; have Q := (box3_new _ _ _ _ _).below hb; have hB := below_box hb; clear hb)
              | (go_at_call 31; refine (c2 _).mono ?_; rintro e w2 ⟨v, u, rfl, rfl⟩)
              | (go_at_call 76; refine (c3 _).mono ?_; rintro e w3 ⟨rfl, hb⟩; replace Q := Q.below hb; replace hB := Below.tr hB hb; clear hb)
              | (go_at_call 77; refine (c4 _).mono ?_; rintro e w4 ⟨rfl, hb⟩; replace Q := (Q.below hb).alloc (.cells #[.int .i64 K, .int .i64 G, .string B] 57); obtain ⟨⟨q0, q1, q2⟩, f0, f1, f2⟩ := Q; replace hB := Below.tr hB hb; clear hb)
              | (go_at_call 66; refine (c5 _).mono ?_; rintro e w5 ⟨rfl, rfl⟩)
              | (go_at_call 67; refine (c6 _).mono ?_; rintro e w6 ⟨rfl, rfl⟩)
              | (go_at_call 46; refine (c7 _).mono ?_; rintro e w7 ⟨rfl, rfl⟩))
            obtain ⟨z0, z1, z2⟩ := set3_cells (v0 := .int .i64 K) (v1 := .int .i64 G) (v2 := .string B) q0 q1 q2
            exact bodyPost_ret (v := .tuple #[.agg #[.int .i64 K, .int .i64 G, .string B], .int .i64 0]) (by simp [results, Try.results53, go_sem, z0, z1, z2]) rfl ⟨rfl, below_set3 (hB.alloc hB.size _) (Nat.le_refl _)⟩
          · have e1 : rE = 4 := by rw [hrE]; simp [hR]
            have e2 : rK = 0 := by rw [hrK, e1]; rfl
            have e3 : rG = 0 := by rw [hrG, e1]; rfl
            have e4 : rB = ⟨#[]⟩ := by rw [hrB, e1]; rfl
            rw [e1, e2, e3, e4]
            clear hrE hrK hrG hrB e1 e2 e3 e4
            have hR1 := str_some hR
            go_enter Try.func53, Try.ntmps53
            go_wp2_with (first
              | (go_at_call 75; refine (c1 _).mono ?_; rintro e w1 ⟨rfl, hb⟩; have Q := (box3_new _ _ _ _ _).below hb; have hB := below_box hb; clear hb)
              | (go_at_call 31; refine (c2 _).mono ?_; rintro e w2 ⟨v, u, rfl, rfl⟩)
              | (go_at_call 76; refine (c3 _).mono ?_; rintro e w3 ⟨rfl, hb⟩; replace Q := Q.below hb; replace hB := Below.tr hB hb; clear hb)
              | (go_at_call 77; refine (c4 _).mono ?_; rintro e w4 ⟨rfl, hb⟩; replace Q := (Q.below hb).alloc (.cells #[.int .i64 K, .int .i64 G, .string B] 57); obtain ⟨⟨q0, q1, q2⟩, f0, f1, f2⟩ := Q; replace hB := Below.tr hB hb; clear hb)
              | (go_at_call 66; refine (c5 _).mono ?_; rintro e w5 ⟨rfl, rfl⟩)
              | (go_at_call 67; refine (c6 _).mono ?_; rintro e w6 ⟨rfl, rfl⟩)
              | (go_at_call 46; refine (c7 _).mono ?_; rintro e w7 ⟨rfl, rfl⟩))
            obtain ⟨z0, z1, z2⟩ := set3_cells (v0 := .int .i64 0) (v1 := .int .i64 0) (v2 := .string ⟨#[]⟩) q0 q1 q2
            exact bodyPost_ret (v := .tuple #[.agg #[.int .i64 0, .int .i64 0, .string ⟨#[]⟩], .int .i64 4]) (by simp [results, Try.results53, go_sem, z0, z1, z2]) rfl ⟨rfl, below_set3 (hB.alloc hB.size _) (Nat.le_refl _)⟩
    · rw [if_neg h2] at o1
      have c3 : ∀ W, Calls Try.prog 76 #[.string (F.extract 0 (9 + n + 4))] W fun e w' => ∃ v, e = .returned (.tuple #[.string v, .int .i64 41]) ∧ Below W.heap.size W w' := by
        intro W
        rw [n13]
        refine (open_any _ W hT).mono fun ee w' ⟨he, hb⟩ => ⟨openS (F.extract 0 (13 + n)), ?_, hb⟩
        rw [he, o1]
      have hE : fE F = 41 := by unfold fE; rw [if_neg (by omega), if_neg h2]
      rw [show fullK F = 0 by unfold fullK; rw [hE]; rfl, show fullG F = 0 by unfold fullG; rw [hE]; rfl, show fullB F = ⟨#[]⟩ by unfold fullB; rw [hE]; rfl, hE]
      have hF4 : 4096 ≤ F.size := by omega
      have hFu : F.size ≤ 4096 := by omega
      have hFm' : F.size ≤ 9223372036854775807 := hFm
      clear hF hn hFe o1 o2 h2 hT hE n13
      go_enter Try.func53, Try.ntmps53
      go_wp2_with (first
        | (go_at_call 75; refine (c1 _).mono ?_; rintro e w1 ⟨rfl, hb⟩; have Q := (box3_new _ _ _ _ _).below hb; have hB := below_box hb; clear hb)
        | (go_at_call 31; refine (c2 _).mono ?_; rintro e w2 ⟨v, u, rfl, rfl⟩)
        | (go_at_call 76; refine (c3 _).mono ?_; rintro e w3 ⟨z, rfl, hb⟩; replace Q := Q.below hb; obtain ⟨⟨q0, q1, q2⟩, f0, f1, f2⟩ := Q; replace hB := Below.tr hB hb; clear hb))
      obtain ⟨z0, z1, z2⟩ := set3_cells (v0 := .int .i64 0) (v1 := .int .i64 0) (v2 := .string ⟨#[]⟩) q0 q1 q2
      exact bodyPost_ret (v := .tuple #[.agg #[.int .i64 0, .int .i64 0, .string ⟨#[]⟩], .int .i64 41]) (by simp [results, Try.results53, go_sem, z0, z1, z2]) rfl ⟨rfl, below_set3 hB (Nat.le_refl _)⟩

/-- GET, at all bytes. -/
theorem pageGet_any (s : ByteArray) (w : World) (hs : s.size ≤ maxLen) :
    Calls Try.prog 53 #[.string s] w fun e w' => e = .returned (.tuple #[.agg #[.int .i64 (readK s), .int .i64 (readG s), .string (readB s)], .int .i64 (readE s)]) ∧ Below w.heap.size w w' := by
  by_cases h : s.size ≤ 4096
  · have e : readE s = fE (fullS s) := by rw [readE, if_pos h]
    unfold readK readG readB
    rw [e]
    exact pageGet_short s w h
  · have e : readE s = 1 := by rw [readE, if_neg h]
    unfold readK readG readB
    rw [e]
    exact pageGet_long s w hs h

end Go.Proofs.Ytcdcnonkoffbhaa

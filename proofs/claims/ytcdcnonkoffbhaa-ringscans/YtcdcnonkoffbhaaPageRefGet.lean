/-
  The document's own Get.
-/
import Derived.Test.YtcdcnonkoffbhaaPageGet
import Derived.Test.YtcdcnonkoffbhaaRefGet
import Derived.Deep.RegionHeld3
namespace Go.Proofs.Ytcdcnonkoffbhaa
open Go.RowKit Plain
set_option linter.unusedVariables false

theorem Box3.drew_eq {w W : World} {h : Nat} {v0 v1 v2 : Value} (b : Box3 w h v0 v1 v2) (e : w.drew = W) : Box3 W h v0 v1 v2 := by subst e; exact b
theorem below_drew_eq {n : Nat} {w a W : World} (b : Below n w a) (e : a.drew = W) : Below n w W := by subst e; exact Below.drew b

set_option maxHeartbeats 2000000 in
theorem refPageGet_long (s : ByteArray) (w : World) (hs : s.size ≤ maxLen) (h : ¬ s.size ≤ 4096) :
    Calls Try.prog 32 #[.string s] w fun e w' => e = .returned (.tuple #[.agg #[.int .i64 0, .int .i64 0, .string ⟨#[]⟩], .int .i64 1]) ∧ Below w.heap.size w w' := by
  unfold maxLen at hs
  have h' : (4096 : Int) < s.size := by omega
  go_enter Try.func32, Try.ntmps32
  go_wp2
  exact bodyPost_ret (v := .tuple #[.agg #[.int .i64 0, .int .i64 0, .string ⟨#[]⟩], .int .i64 1]) (by simp [results, Try.results32, go_sem]) rfl ⟨rfl, (Below.refl _ _).alloc (Nat.le_refl _) _⟩

set_option maxHeartbeats 4000000 in
theorem refPageGet_short (s : ByteArray) (w : World) (h : s.size ≤ 4096) :
    Calls Try.prog 32 #[.string s] w fun e w' => e = .returned (.tuple #[.agg #[.int .i64 (fullK (fullS s)), .int .i64 (fullG (fullS s)), .string (fullB (fullS s))], .int .i64 (fE (fullS s))]) ∧ Below w.heap.size w w' := by
  have hs : s.size ≤ maxLen := by unfold maxLen; omega
  have hF := fullS_size h
  obtain ⟨F, hFe⟩ : ∃ F, F = fullS s := ⟨_, rfl⟩
  rw [← hFe] at hF ⊢
  have c1 : ∀ W, Calls Try.prog 56 #[.string s, .int .i64 4096] W fun e w' => e = .returned (.tuple #[.string F, .int .i64 0]) ∧ Below W.heap.size W w' := by
    intro W
    have e : padE s 4096 = 0 := by
      unfold padE
      rw [if_pos ⟨by omega, by omega⟩, if_pos (by omega)]
    refine (refPad_any s 4096 W hs).mono fun ee w' ⟨he, hb⟩ => ⟨?_, hb⟩
    rw [he, e, hFe, padS, if_pos e]; rfl
  have hFm : F.size ≤ maxLen := by unfold maxLen; omega
  have hF4 : 4096 ≤ F.size := by omega
  have hFu : F.size ≤ 4096 := by omega
  have hs' : s.size ≤ 9223372036854775807 := hs
  have h' : (s.size : Int) ≤ 4096 := by omega
  have l7 : 7 < F.size := by omega
  have l8 : 8 < F.size := by omega
  have l0 : 0 < F.size := by omega
  obtain ⟨n, hn⟩ : ∃ n, n = fN F := ⟨_, rfl⟩
  have hn7 : (n : Int) = (256 : Int) * ((F[7]'l7).toNat : Int) + ((F[8]'l8).toNat : Int) := by
    have h0 := (getV_bd F 7 2).1
    have h1 : getV F 7 2 = getV F 7 1 * 256 + ((F[8]'l8).toNat : Int) := getV_succ F 7 1 l8
    have h2 : getV F 7 1 = getV F 7 0 * 256 + ((F[7]'l7).toNat : Int) := getV_succ F 7 0 l7
    have h3 : getV F 7 0 = 0 := rfl
    rw [hn]
    unfold fN
    omega
  obtain ⟨b7, hb7⟩ : ∃ b : Nat, ∀ h : 7 < F.size, (F[7]'h).toNat = b := ⟨(F[7]'l7).toNat, fun _ => rfl⟩
  obtain ⟨b8, hb8⟩ : ∃ b : Nat, ∀ h : 8 < F.size, (F[8]'h).toNat = b := ⟨(F[8]'l8).toNat, fun _ => rfl⟩
  obtain ⟨b0, hb0⟩ : ∃ b : Nat, ∀ h : 0 < F.size, (F[0]'h).toNat = b := ⟨(F[0]'l0).toNat, fun _ => rfl⟩
  have hw : Hid (IntKind.i64.wrap (IntKind.i64.wrap ((256 : Int) * IntKind.i64.wrap (b7 : Int)) + IntKind.i64.wrap (b8 : Int)) = (n : Int)) := by
    show _ = _
    have x7 : (F[7]'l7).toNat < 256 := UInt8.toNat_lt _
    have x8 : (F[8]'l8).toNat < 256 := UInt8.toNat_lt _
    rw [hb7] at x7 hn7
    rw [hb8] at x8 hn7
    rw [i64_in (b7 : Int) (by omega) (by omega), i64_in (b8 : Int) (by omega) (by omega), i64_in ((256 : Int) * (b7 : Int)) (by omega) (by omega), ← hn7, i64_in (n : Int) (by omega) (by omega)]
  clear hn7
  have hF0 : Hid (F.size = 4096) := hF
  have hn0 : Hid (n = fN F) := hn
  clear hF hFe hn
  have hb0' : Hid (∀ h : 0 < F.size, (F[0]'h).toNat = b0) := hb0
  have hb7' : Hid (∀ h : 7 < F.size, (F[7]'h).toNat = b7) := hb7
  have hb8' : Hid (∀ h : 8 < F.size, (F[8]'h).toNat = b8) := hb8
  clear hb0 hb7 hb8
  obtain ⟨K, hKe⟩ : ∃ K, K = fK F := ⟨_, rfl⟩
  obtain ⟨G, hGe⟩ : ∃ G, G = fG F := ⟨_, rfl⟩
  obtain ⟨B, hBe⟩ : ∃ B, B = fB F := ⟨_, rfl⟩
  have hw0 : Hid (IntKind.i64.wrap (b0 : Int) = K) := by
    show _ = _
    have x0 : (F[0]'l0).toNat < 256 := UInt8.toNat_lt _
    have h2 : getV F 0 1 = getV F 0 0 * 256 + ((F[0]'l0).toNat : Int) := getV_succ F 0 0 l0
    have h3 : getV F 0 0 = 0 := rfl
    rw [hb0'.out] at x0 h2
    rw [i64_in (b0 : Int) (by omega) (by omega), hKe]
    unfold fK
    omega
  have cG : ∀ W, Calls Try.prog 38 #[.string F, .int .i64 1, .int .i64 6] W fun e w' => ∃ v u, e = .returned (.tuple #[.int .i64 G, .int .i64 v, .int .i64 u]) ∧ W = w' := by
    intro W
    have e : getE F 1 6 = 0 := getE_zero ⟨by omega, by omega, by omega, by omega⟩
    refine (refGet_any F 1 6 W hFm).mono fun ee w' ⟨he, hb⟩ => ⟨getT F 1 6, 0, ?_, hb⟩
    rw [he, e, getR, e, hGe]; rfl
  have hG0 : 0 ≤ G := by rw [hGe]; exact (getV_bd F 1 6).1
  have hGm : G ≤ 281474976710656 := by rw [hGe]; have := (getV_bd F 1 6).2; have h6 := pw_le 6 (by omega); unfold fG; omega
  have hFm' : F.size ≤ 9223372036854775807 := hFm
  go_enter Try.func32, Try.ntmps32
  go_wp2_with (first
    | (go_at_call 56; refine (c1 _).mono ?_; rintro e w1 ⟨rfl, hb⟩; have Q := (box3_new _ _ _ _ _).below hb; have hB := below_box hb; clear hb))
  refine (fun (keyA : Hid ?propA) => ?regA) ?kontA
  case regA =>
    go_region_held3 (fun _ => True) (trivial) (fail)
    all_goals simp only [hb7'.out, hb8'.out, hw.out]
    all_goals exact keyA.out
  case kontA =>
    unfold Hid
    generalize hW : w1.drew = W
    replace Q := Q.drew_eq hW
    replace hB := below_drew_eq hB hW
    clear hW c1 hw hb7' hb8'
    by_cases h1 : 4000 < n
    · have hE : fE F = 4 := by unfold fE; rw [if_pos (by have := hn0.out; omega)]
      have xK : Hid (fullK F = 0) := by show _ = _; unfold fullK; rw [hE]; rfl
      have xG : Hid (fullG F = 0) := by show _ = _; unfold fullG; rw [hE]; rfl
      have xB : Hid (fullB F = ⟨#[]⟩) := by show _ = _; unfold fullB; rw [hE]; rfl
      have xE : Hid (fE F = 4) := hE
      clear hE hKe hGe hBe
      have h1' : (4000 : Int) < n := by omega
      obtain ⟨⟨q0, q1, q2⟩, f0, f1, f2⟩ := Q
      go_wp2
      obtain ⟨z0, z1, z2⟩ := set3_cells (v0 := .int .i64 0) (v1 := .int .i64 0) (v2 := .string ⟨#[]⟩) q0 q1 q2
      exact bodyPost_ret (v := .tuple #[.agg #[.int .i64 0, .int .i64 0, .string ⟨#[]⟩], .int .i64 4]) (by simp [results, Try.results32, go_sem, z0, z1, z2]) rfl ⟨by rw [xE.out, xK.out, xG.out, xB.out], below_set3 hB (Nat.le_refl _)⟩
    · have hn4 : n ≤ 4000 := by omega
      have hn4' : (n : Int) ≤ 4000 := by omega
      have hz9 : (F.extract 0 (9 + n)).size ≤ 1000000 := by rw [ByteArray.size_extract]; omega
      obtain ⟨u, hu⟩ : ∃ u, u = sealS (F.extract 0 (9 + n)) := ⟨_, rfl⟩
      have c2 : ∀ W, Calls Try.prog 52 #[.string (F.extract 0 (9 + n))] W fun e w' => e = .returned (.string u) ∧ Below W.heap.size W w' := by
        intro W; rw [hu]; exact refSeal_ok _ W hz9
      have hS : Hid (fSealed F ↔ u = F.extract 0 (13 + n)) := by
        show _ ↔ _
        rw [fSealed_iff, ← hn0.out, ← hu]
      clear hu hz9
      have HK : Hid (K = fK F) := hKe
      have HG : Hid (G = fG F) := hGe
      have HBB : Hid (B = fB F) := hBe
      clear hKe hGe hBe
      go_wp2
      refine (fun (keyB : Hid (∀ V : World, Box3 V w.heap.size (.int .i64 0) (.int .i64 0) (.string ⟨#[]⟩) → Below w.heap.size w V → (?propB : World → Prop) V)) => ?regB) ?kontB
      case regB =>
        have hK' : ∀ V, Below W.drew.heap.size W.drew V → Box3 V w.heap.size (.int .i64 0) (.int .i64 0) (.string ⟨#[]⟩) ∧ Below w.heap.size w V := fun V hV => ⟨Box3.below (w := W.drew) Q hV, Below.tr (Below.drew hB) hV⟩
        have i1 : (0 : Int) ≤ 9 + (n : Int) := by omega
        have i2 : 9 + (n : Int) ≤ (F.size : Int) := by omega
        have i3 : (0 : Int) ≤ 13 + (n : Int) := by omega
        have i4 : 13 + (n : Int) ≤ (F.size : Int) := by omega
        have i5 : IntKind.i64.wrap (9 + (n : Int)) = 9 + (n : Int) := i64_in _ (by omega) (by omega)
        have i6 : IntKind.i64.wrap (13 + (n : Int)) = 13 + (n : Int) := i64_in _ (by omega) (by omega)
        have i7 : (9 + (n : Int)).toNat = 9 + n := by omega
        have i8 : (13 + (n : Int)).toNat = 13 + n := by omega
        go_region_held3 (fun _ => True) (trivial) (first
          | (go_at_call 52; refine (c2 _).mono ?_; rintro e w2 ⟨rfl, hb⟩; obtain ⟨Q2, hB2⟩ := hK' _ hb; clear hb))
        all_goals exact keyB.out _ Q2 hB2
      case kontB =>
        unfold Hid
        clear Q hB c2
        intro V Q hB
        by_cases h2 : u = F.extract 0 (13 + n)
        · have h2' : fSealed F := hS.out.2 h2
          subst h2
          have c3 : ∀ W, Calls Try.prog 57 #[.agg #[.int .i64 K, .int .i64 G, .string B]] W fun e w' => e = .returned (.bool (isKind K && isGen G)) ∧ Below W.heap.size W w' := by
            intro W
            have hbs : B.size = n := by
              rw [HBB.out]; unfold fB
              rw [← hn0.out, extract_size' _ _ _ (by omega) (by omega)]
              omega
            have := refPageRight_any K G B W (by unfold maxLen; omega)
            rwa [rightP_eq, decide_eq_true (show (B.size : Int) ≤ 4000 by omega), Bool.and_true] at this
          clear hS
          obtain ⟨R, hRe⟩ : ∃ R, R = trimS (fRest F) := ⟨_, rfl⟩
          have c4 : ∀ W, Calls Try.prog 51 #[.string (F.extract (13 + n) F.size)] W fun e w' => e = .returned (.string R) ∧ W = w' := by
            intro W
            have := refTrim_any (fRest F) W (by unfold fRest; rw [ByteArray.size_extract]; unfold maxLen; omega)
            rw [← hRe] at this
            unfold fRest at this
            rwa [← hn0.out] at this
          have hBx : Hid (F.extract 9 (9 + n) = B) := by
            show _ = _
            rw [HBB.out]; unfold fB
            rw [← hn0.out]
          have hn1 := str_ne_false (a := F.extract 0 (13 + n)) rfl
          rw [hn1]
          clear hn1
          go_wp2_with (first
            | (go_at_call 38; refine (cG _).mono ?_; rintro e w2 ⟨v, u, rfl, rfl⟩))
          refine (fun (keyC : Hid ?propC) => ?regC) ?kontC
          case regC =>
            have i1 : (0 : Int) ≤ 9 + (n : Int) := by omega
            have i2 : 9 + (n : Int) ≤ (F.size : Int) := by omega
            have i3 : (9 : Int) ≤ 9 + (n : Int) := by omega
            have i4 : (0 : Int) < (F.size : Int) := by omega
            have i5 : IntKind.i64.wrap (9 + (n : Int)) = 9 + (n : Int) := i64_in _ (by omega) (by omega)
            have i7 : (9 + (n : Int)).toNat = 9 + n := by omega
            go_region_held3 (fun _ => True) (trivial) (fail)
            all_goals simp only [hb0'.out, hw0.out, hBx.out]
            all_goals exact keyC.out
          case kontC =>
            unfold Hid
            have PQ : ∀ X : World, (V.alloc (.cells #[.int .i64 K, .int .i64 G, .string B] 57)).drew = X →
                Box3 X w.heap.size (.int .i64 0) (.int .i64 0) (.string ⟨#[]⟩) ∧ Box3 X V.heap.size (.int .i64 K) (.int .i64 G) (.string B) ∧ Below w.heap.size w X := by
              intro X hX
              exact ⟨(Q.alloc _).drew_eq hX, (box3_new V _ _ _ _).drew_eq hX, below_drew_eq (hB.alloc hB.size _) hX⟩
            generalize hX : (V.alloc (.cells #[.int .i64 K, .int .i64 G, .string B] 57)).drew = X
            obtain ⟨Q1, P1, hB1⟩ := PQ X hX
            clear PQ hX Q hB
            have hB := hB1
            clear hB1
            have QQ : Hid (Box3 X w.heap.size (.int .i64 0) (.int .i64 0) (.string ⟨#[]⟩)) := Q1
            have PP : Hid (Box3 X V.heap.size (.int .i64 K) (.int .i64 G) (.string B)) := P1
            obtain ⟨⟨q0, q1, q2⟩, f0, f1, f2⟩ := Q1
            obtain ⟨⟨p0, p1, p2⟩, g0, g1, g2⟩ := P1
            have hF1 : Hid (∀ e : Int, (if 1 ≤ K ∧ K ≤ 5 then (if G ≤ 1099511627776 ∧ R = ⟨#[]⟩ then 0 else 4) else 40) = e → fE F = e) := by
              intro e he
              unfold fE
              rw [if_neg (by have := hn0.out; omega), if_pos h2', ← HK.out, ← HG.out, ← hRe]
              exact he
            clear hRe h2' cG
            by_cases k1 : K < 1
            · have hE : fE F = 40 := hF1.out _ (if_neg (by omega))
              have xK : Hid (fullK F = 0) := by show _ = _; unfold fullK; rw [hE]; rfl
              have xG : Hid (fullG F = 0) := by show _ = _; unfold fullG; rw [hE]; rfl
              have xB : Hid (fullB F = ⟨#[]⟩) := by show _ = _; unfold fullB; rw [hE]; rfl
              have xE : Hid (fE F = 40) := hE
              clear hE
              go_wp2
              obtain ⟨z0, z1, z2⟩ := set3_cells (v0 := .int .i64 0) (v1 := .int .i64 0) (v2 := .string ⟨#[]⟩) q0 q1 q2
              exact bodyPost_ret (v := .tuple #[.agg #[.int .i64 0, .int .i64 0, .string ⟨#[]⟩], .int .i64 40]) (by simp [results, Try.results32, go_sem, z0, z1, z2]) rfl ⟨by rw [xE.out, xK.out, xG.out, xB.out], below_set3 hB (Nat.le_refl _)⟩
            by_cases k5 : 5 < K
            · have hE : fE F = 40 := hF1.out _ (if_neg (by omega))
              have xK : Hid (fullK F = 0) := by show _ = _; unfold fullK; rw [hE]; rfl
              have xG : Hid (fullG F = 0) := by show _ = _; unfold fullG; rw [hE]; rfl
              have xB : Hid (fullB F = ⟨#[]⟩) := by show _ = _; unfold fullB; rw [hE]; rfl
              have xE : Hid (fE F = 40) := hE
              clear hE
              go_wp2
              obtain ⟨z0, z1, z2⟩ := set3_cells (v0 := .int .i64 0) (v1 := .int .i64 0) (v2 := .string ⟨#[]⟩) q0 q1 q2
              exact bodyPost_ret (v := .tuple #[.agg #[.int .i64 0, .int .i64 0, .string ⟨#[]⟩], .int .i64 40]) (by simp [results, Try.results32, go_sem, z0, z1, z2]) rfl ⟨by rw [xE.out, xK.out, xG.out, xB.out], below_set3 hB (Nat.le_refl _)⟩
            have hkk : 1 ≤ K ∧ K ≤ 5 := by omega
            have hk1 : isKind K = true := by simp [isKind]; omega
            rw [hk1, Bool.true_and] at c3
            by_cases y : G ≤ 1099511627776
            · have hy : isGen G = true := by simp [isGen, hG0, y]
              rw [hy] at c3
              by_cases hR : R = ⟨#[]⟩
              · have hE : fE F = 0 := hF1.out _ (by rw [if_pos hkk, if_pos ⟨y, hR⟩])
                have xK : Hid (fullK F = K) := by show _ = _; unfold fullK; rw [hE, HK.out]; rfl
                have xG : Hid (fullG F = G) := by show _ = _; unfold fullG; rw [hE, HG.out]; rfl
                have xB : Hid (fullB F = B) := by show _ = _; unfold fullB; rw [hE, HBB.out]; rfl
                have xE : Hid (fE F = 0) := hE
                clear hE hy hkk hk1
                subst hR
                go_wp2_with (first
                  | (go_at_call 57; refine (c3 _).mono ?_; rintro e w3 ⟨rfl, hb⟩; obtain ⟨⟨q0, q1, q2⟩, f0, f1, f2⟩ := Box3.below QQ.out hb; obtain ⟨⟨p0, p1, p2⟩, g0, g1, g2⟩ := Box3.below PP.out hb; replace hB := Below.tr hB hb; clear hb)
                  | (go_at_call 51; refine (c4 _).mono ?_; rintro e w4 ⟨rfl, rfl⟩))
                obtain ⟨z0, z1, z2⟩ := set3_cells (v0 := .int .i64 K) (v1 := .int .i64 G) (v2 := .string B) q0 q1 q2
                exact bodyPost_ret (v := .tuple #[.agg #[.int .i64 K, .int .i64 G, .string B], .int .i64 0]) (by simp [results, Try.results32, go_sem, z0, z1, z2]) rfl ⟨by rw [xE.out, xK.out, xG.out, xB.out], below_set3 hB (Nat.le_refl _)⟩
              · have hE : fE F = 4 := hF1.out _ (by rw [if_pos hkk, if_neg (fun hh => hR hh.2)])
                have xK : Hid (fullK F = 0) := by show _ = _; unfold fullK; rw [hE]; rfl
                have xG : Hid (fullG F = 0) := by show _ = _; unfold fullG; rw [hE]; rfl
                have xB : Hid (fullB F = ⟨#[]⟩) := by show _ = _; unfold fullB; rw [hE]; rfl
                have xE : Hid (fE F = 4) := hE
                have hR1 := str_some hR
                clear hE hy hkk hk1
                go_wp2_with (first
                  | (go_at_call 57; refine (c3 _).mono ?_; rintro e w3 ⟨rfl, hb⟩; obtain ⟨⟨q0, q1, q2⟩, f0, f1, f2⟩ := Box3.below QQ.out hb; obtain ⟨⟨p0, p1, p2⟩, g0, g1, g2⟩ := Box3.below PP.out hb; replace hB := Below.tr hB hb; clear hb)
                  | (go_at_call 51; refine (c4 _).mono ?_; rintro e w4 ⟨rfl, rfl⟩))
                obtain ⟨z0, z1, z2⟩ := set3_cells (v0 := .int .i64 0) (v1 := .int .i64 0) (v2 := .string ⟨#[]⟩) q0 q1 q2
                exact bodyPost_ret (v := .tuple #[.agg #[.int .i64 0, .int .i64 0, .string ⟨#[]⟩], .int .i64 4]) (by simp [results, Try.results32, go_sem, z0, z1, z2]) rfl ⟨by rw [xE.out, xK.out, xG.out, xB.out], below_set3 hB (Nat.le_refl _)⟩
            · have hy : isGen G = false := by simp [isGen, hG0]; omega
              rw [hy] at c3
              have hE : fE F = 4 := hF1.out _ (by rw [if_pos hkk, if_neg (fun hh => y hh.1)])
              have xK : Hid (fullK F = 0) := by show _ = _; unfold fullK; rw [hE]; rfl
              have xG : Hid (fullG F = 0) := by show _ = _; unfold fullG; rw [hE]; rfl
              have xB : Hid (fullB F = ⟨#[]⟩) := by show _ = _; unfold fullB; rw [hE]; rfl
              have xE : Hid (fE F = 4) := hE
              clear hE hy hkk hk1
              go_wp2_with (first
                | (go_at_call 57; refine (c3 _).mono ?_; rintro e w3 ⟨rfl, hb⟩; obtain ⟨⟨q0, q1, q2⟩, f0, f1, f2⟩ := Box3.below QQ.out hb; obtain ⟨⟨p0, p1, p2⟩, g0, g1, g2⟩ := Box3.below PP.out hb; replace hB := Below.tr hB hb; clear hb)
                | (go_at_call 51; refine (c4 _).mono ?_; rintro e w4 ⟨rfl, rfl⟩))
              obtain ⟨z0, z1, z2⟩ := set3_cells (v0 := .int .i64 0) (v1 := .int .i64 0) (v2 := .string ⟨#[]⟩) q0 q1 q2
              exact bodyPost_ret (v := .tuple #[.agg #[.int .i64 0, .int .i64 0, .string ⟨#[]⟩], .int .i64 4]) (by simp [results, Try.results32, go_sem, z0, z1, z2]) rfl ⟨by rw [xE.out, xK.out, xG.out, xB.out], below_set3 hB (Nat.le_refl _)⟩
        · have h2' : ¬ fSealed F := fun hh => h2 (hS.out.1 hh)
          have hn1 := str_ne_true h2
          have hE : fE F = 41 := by unfold fE; rw [if_neg (by have := hn0.out; omega), if_neg h2']
          have xK : Hid (fullK F = 0) := by show _ = _; unfold fullK; rw [hE]; rfl
          have xG : Hid (fullG F = 0) := by show _ = _; unfold fullG; rw [hE]; rfl
          have xB : Hid (fullB F = ⟨#[]⟩) := by show _ = _; unfold fullB; rw [hE]; rfl
          have xE : Hid (fE F = 41) := hE
          clear hE h2' hS h2
          obtain ⟨⟨q0, q1, q2⟩, f0, f1, f2⟩ := Q
          rw [hn1]
          clear hn1
          go_wp2
          obtain ⟨z0, z1, z2⟩ := set3_cells (v0 := .int .i64 0) (v1 := .int .i64 0) (v2 := .string ⟨#[]⟩) q0 q1 q2
          exact bodyPost_ret (v := .tuple #[.agg #[.int .i64 0, .int .i64 0, .string ⟨#[]⟩], .int .i64 41]) (by simp [results, Try.results32, go_sem, z0, z1, z2]) rfl ⟨by rw [xE.out, xK.out, xG.out, xB.out], below_set3 hB (Nat.le_refl _)⟩

/-- The document's own Get, at all bytes. -/
theorem refPageGet_any (s : ByteArray) (w : World) (hs : s.size ≤ maxLen) :
    Calls Try.prog 32 #[.string s] w fun e w' => e = .returned (.tuple #[.agg #[.int .i64 (readK s), .int .i64 (readG s), .string (readB s)], .int .i64 (readE s)]) ∧ Below w.heap.size w w' := by
  by_cases h : s.size ≤ 4096
  · have e : readE s = fE (fullS s) := by rw [readE, if_pos h]
    unfold readK readG readB
    rw [e]
    exact refPageGet_short s w h
  · have e : readE s = 1 := by rw [readE, if_neg h]
    unfold readK readG readB
    rw [e]
    exact refPageGet_long s w hs h

end Go.Proofs.Ytcdcnonkoffbhaa

/-
  The document's own Unpack.
-/
import Derived.Test.YtcdcnonkoffbhaaRingRefUnp
namespace Go.Proofs.Ytcdcnonkoffbhaa
open Go.RowKit Plain
set_option linter.unusedVariables false

theorem push_Cz (W : World) (base : Nat) (v : Value) (n : Nat) (l : List Chg) (x : Chg) (z : Nat) (hz : W.heap.size = z) (hown : W.ownsRow base 68 3 v n (cellsC l)) (hb : base ≤ z) (hn : n ≤ 1000000) :
    ∃ g cap w', (Builtin.append_ #[34, 34] 34 #[v, .slice (some ⟨z, 0, none⟩) 1 1]).run Try.prog (W.alloc (.cells #[.string x.1, .string x.2.1, .bool x.2.2] 68)) = .ok (.slice (some ⟨g, 0, none⟩) (n + 1) cap) w' ∧
      w'.ownsRow base 68 3 (.slice (some ⟨g, 0, none⟩) (n + 1) cap) (n + 1) (cellsC (l ++ [x])) ∧ (W.alloc (.cells #[.string x.1, .string x.2.1, .bool x.2.2] 68)).grownBy w' v.ownBlock := by
  subst hz
  obtain ⟨g, cap, w', h1, h2, h3, _⟩ := push_C W base v n l x hown hb hn
  exact ⟨g, cap, w', h1, h2, h3⟩

set_option maxRecDepth 20000 in
set_option maxHeartbeats 4000000 in
theorem refUnpack_any (s : ByteArray) (w : World) (hs : s.size ≤ maxLen) :
    Calls Try.prog 21 #[.string s] w fun x w' => ∃ a c, x = .returned (.tuple #[.slice a (unpL s).length c, .int .i64 (unpE s)]) ∧ IsC w' a c (unpL s) ∧ Below w.heap.size w w' := by
  have hsm : s.size ≤ 9223372036854775807 := hs
  have bad : Hid (∀ x : Int, unpE s = x → ¬ x = 0 → unpL s = [] ∧ unpE s = x) := by
    show ∀ x : Int, _
    intro x h hx
    exact ⟨by rw [unpL, if_neg (by rw [h]; exact hx)], h⟩
  by_cases h4 : s.size ≤ 480
  · have h4' : (s.size : Int) ≤ 480 := by omega
    obtain ⟨M, hM⟩ : ∃ M, M = chM s := ⟨_, rfl⟩
    have HM : Hid (M = chM s) := hM
    have HS : Hid (s.size ≤ maxLen) := hs
    have hM2 : getR s 0 1 = (M : Int) := by have := (chM_le s).2; rw [nmR, if_pos rfl] at this; rw [hM]; exact this
    have hM3 : M ≤ 255 := by rw [hM]; exact (chM_le s).1
    have c0 : ∀ W, Calls Try.prog 38 #[.string s, .int .i64 0, .int .i64 1] W fun e w' => e = .returned (.tuple #[.int .i64 M, .int .i64 (getT s 0 1), .int .i64 (getE s 0 1)]) ∧ W = w' := by
      intro W
      have := refGet_any s 0 1 W hs
      rw [hM2] at this
      exact this
    have hst0 : Hid (chSt s 0 = ⟨getT s 0 1, getE s 0 1, []⟩) := by show _ = _; rw [chSt, nmP, nmE, if_pos rfl, if_pos rfl]
    have H4 : Hid (s.size ≤ 480) := h4
    generalize getT s 0 1 = p0 at *
    generalize getE s 0 1 = e0 at *
    clear hM hM2 hs
    by_cases h0 : e0 = 0
    · subst h0
      go_enter Try.func21, Try.ntmps21
      go_wp2_with (go_at_call 38; refine (c0 _).mono ?_; rintro y w' ⟨rfl, rfl⟩)
      go_loopw [4, 6, 8] (fun b q v wr => ∃ (j : Nat) (P : Int), j ≤ M ∧ v = .int .i64 j ∧ q = .int .i64 P ∧ Hid (P = (chSt s j).p) ∧ Hid ((chSt s j).e = 0) ∧ wr.ownsRow w.heap.size 68 3 b j (cellsC (chSt s j).cs) ∧ Below w.heap.size w wr) (fun _ _ v _ => M - (intOf v).toNat)
      case atStart =>
        refine ⟨0, p0, by omega, rfl, rfl, ?_, ?_, ?_, (Below.refl _ _).alloc (Nat.le_refl _) _⟩
        · show p0 = _; rw [hst0.out]
        · show _ = (0 : Int); rw [hst0.out]
        · rw [hst0.out]; exact World.ownsRow_made _ _ 0 (Nat.le_refl _) (by decide) rfl
      case round =>
        obtain ⟨j, P, hj, rfl, rfl, HP, HZ, own, hB⟩ := hrel
        obtain ⟨A, hA⟩ : ∃ A, A = chSt s j := ⟨_, rfl⟩
        rw [← hA] at HP HZ own
        have hnx : chSt s (j + 1) = chStep s A := by rw [hA]; rfl
        have HA : Hid (A = chSt s j) := hA
        have HNX : Hid (chSt s (j + 1) = chStep s A) := hnx
        replace own : Hid _ := own
        clear c0 hst0 hA hnx
        by_cases hlt : j < M
        · have hjn : (j : Int) < M := by omega
          have hP : P = A.p := HP.out
          subst hP
          have c1 := fun W => refGet_any s A.p 1 W HS.out
          have c2 := fun W => refCut_any s (getT s A.p 1) W HS.out
          have c3 := fun W => refCut_any s (cutT s (getT s A.p 1)) W HS.out
          have hx0 := getR_pos s A.p
          have S1 : Hid (¬ getE s A.p 1 = 0 → (chStep s A).e = getE s A.p 1) := fun h => st_get HZ.out h
          have S2 : Hid (getE s A.p 1 = 0 → 1 < getR s A.p 1 → (chStep s A).e = 4) := fun h h' => st_form HZ.out h h'
          have S3 : Hid (getE s A.p 1 = 0 → getR s A.p 1 = 1 → chStep s A = ⟨cutT s (getT s A.p 1), cutE s (getT s A.p 1), A.cs ++ [(cutS s (getT s A.p 1), ⟨#[]⟩, true)]⟩) := fun h h' => st_one HZ.out h h'
          have S4 : Hid (getE s A.p 1 = 0 → getR s A.p 1 = 0 → chStep s A = ⟨if cutE s (getT s A.p 1) = 0 then cutT s (cutT s (getT s A.p 1)) else cutT s (getT s A.p 1), if cutE s (getT s A.p 1) = 0 then cutE s (cutT s (getT s A.p 1)) else cutE s (getT s A.p 1), A.cs ++ [(cutS s (getT s A.p 1), if cutE s (getT s A.p 1) = 0 then cutS s (cutT s (getT s A.p 1)) else ⟨#[]⟩, false)]⟩) := fun h h' => st_zero HZ.out h h'
          have FL : Hid (∀ x : Int, (chStep s A).e = x → ¬ x = 0 → unpL s = [] ∧ unpE s = x) := fun x h hx => bad.out x (unp_fail H4.out (j := j + 1) (by rw [← HM.out]; omega) (by rw [HNX.out]; exact h) hx) hx
          generalize hpp : A.p = P at *
          generalize getR s P 1 = X at *
          generalize getT s P 1 = p1 at *
          generalize getE s P 1 = e1 at *
          generalize cutS s p1 = k1 at *
          generalize cutE s p1 = e2 at *
          generalize cutT s p1 = p2 at *
          generalize cutS s p2 = v2 at *
          generalize cutE s p2 = e3 at *
          generalize cutT s p2 = p3 at *
          clear hpp HP HZ HA bad H4 HM
          have own1 : wr.ownsRow w.heap.size 68 3 u4 j (cellsC A.cs) := own.out
          clear own
          have own : Hid (wr.ownsRow w.heap.size 68 3 u4 j (cellsC A.cs)) := own1
          have hno : Hid (u4.ownBlock ≠ some wr.heap.size) := fun h => by have := (own1.lt _ h).2; omega
          have hlo : Hid (∀ i, u4.ownBlock = some i → w.heap.size ≤ i) := fun i hi => (own1.lt i hi).1
          clear own1
          by_cases h1 : e1 = 0
          · subst h1
            by_cases h2 : 1 < X
            · have HL : Hid (unpL s = [] ∧ unpE s = 4) := FL.out 4 (S2.out rfl h2) (by decide)
              clear FL S1 S2 S3 S4
              go_wp2_with (first
  | (go_at_call 38; refine (c1 _).mono ?_; rintro y w' ⟨rfl, rfl⟩)
                )
              go_ret2
              exact ⟨none, 0, by rw [HL.out.1, HL.out.2]; rfl, by rw [HL.out.1]; exact isC_nil _ _ _ (Nat.zero_le _), hB⟩
            · by_cases h3 : e2 = 0
              · subst h3
                by_cases h5 : X = 1
                · subst h5
                  have hst := S3.out rfl rfl
                  have o1 : (wr.alloc (.cells #[.string k1, .string ⟨#[]⟩, .bool true] 68)).ownsRow w.heap.size 68 3 u4 j (cellsC A.cs) := (show wr.ownsRow _ _ _ _ _ _ from own.out).alloc _
                  obtain ⟨g, cap, w5, hrun, own5, hgr⟩ := push_Cz _ w.heap.size u4 j A.cs (k1, ⟨#[]⟩, true) (wr.heap.size + 1) (by simp) o1 (Nat.le_succ_of_le hB.size) (by omega)
                  have hB5 : Below w.heap.size w w5 := ((hB.alloc hB.size _).alloc (Nat.le_trans hB.size (by simp)) _).grown hgr (Nat.le_trans hB.size (by simp; omega)) hlo.out
                  have bx := box3_new wr (.string k1) (.string ⟨#[]⟩) (.bool true) 68
                  obtain ⟨⟨q0, q1, q2⟩, -⟩ := id bx
                  have fin1 : Hid (p2 = (chSt s (j + 1)).p ∧ (chSt s (j + 1)).e = 0 ∧ w5.ownsRow w.heap.size 68 3 (.slice (some ⟨g, 0, none⟩) (j + 1) cap) (j + 1) (cellsC (chSt s (j + 1)).cs)) := by
                    show _ ∧ _
                    rw [HNX.out, hst]
                    exact ⟨rfl, rfl, own5⟩
                  clear FL S1 S2 S3 S4 hst HNX own5 hgr o1 bx own hno hlo
                  go_wp2_with (first
  | (go_at_call 38; refine (c1 _).mono ?_; rintro y w' ⟨rfl, rfl⟩)
  | (go_at_call 39; refine (c2 _).mono ?_; rintro y w' ⟨rfl, rfl⟩)
  | (at_builtin; refine Lib.wpList_append_run _ rfl _ _ _ _ rfl _ _ rfl rfl _ _ hrun ?_)
                    )
                  go_roundw
                  case rel => exact ⟨j + 1, p2, by omega, by go_num, rfl, fin1.out.1, fin1.out.2.1, fin1.out.2.2, hB5⟩
                  case measure => simp [intOf]; omega
                · obtain rfl : X = 0 := by omega
                  clear h5
                  have tok1 : True := trivial
                  by_cases h6 : e3 = 0
                  · subst h6
                    have hst := S4.out rfl rfl
                    simp only [if_true] at hst
                    have o2 : (wr.alloc (.cells #[.string k1, .string v2, .bool false] 68)).ownsRow w.heap.size 68 3 u4 j (cellsC A.cs) := (show wr.ownsRow _ _ _ _ _ _ from own.out).alloc _
                    obtain ⟨g, cap, w5, hrun, own5, hgr⟩ := push_Cz _ w.heap.size u4 j A.cs (k1, v2, false) (wr.heap.size + 1) (by simp) o2 (Nat.le_succ_of_le hB.size) (by omega)
                    have hB5 : Below w.heap.size w w5 := ((hB.alloc hB.size _).alloc (Nat.le_trans hB.size (by simp)) _).grown hgr (Nat.le_trans hB.size (by simp; omega)) hlo.out
                    have bx := box3_new wr (.string k1) (.string ⟨#[]⟩) (.bool false) 68
                    obtain ⟨⟨q0, q1, q2⟩, f0, f1, f2⟩ := id bx
                    obtain ⟨⟨m0, m1, m2⟩, -⟩ := box3_new wr (.string k1) (.string v2) (.bool false) 68
                    have fin1 : Hid (p3 = (chSt s (j + 1)).p ∧ (chSt s (j + 1)).e = 0 ∧ w5.ownsRow w.heap.size 68 3 (.slice (some ⟨g, 0, none⟩) (j + 1) cap) (j + 1) (cellsC (chSt s (j + 1)).cs)) := by
                      show _ ∧ _
                      rw [HNX.out, hst]
                      exact ⟨rfl, rfl, own5⟩
                    clear FL S1 S2 S3 S4 hst HNX own5 hgr o2 bx own hno hlo
                    go_wp2_with (first
  | (go_at_call 38; refine (c1 _).mono ?_; rintro y w' ⟨rfl, rfl⟩)
  | (go_at_call 39; have _t := tok1; refine (c2 _).mono ?_; rintro y w' ⟨rfl, rfl⟩; clear tok1 _t)
  | (go_at_call 39; refine (c3 _).mono ?_; rintro y w' ⟨rfl, rfl⟩)
  | (at_builtin; refine Lib.wpList_append_run _ rfl _ _ _ _ rfl _ _ rfl rfl _ _ hrun ?_)
                      )
                    go_roundw
                    case rel => exact ⟨j + 1, p3, by omega, by go_num, rfl, fin1.out.1, fin1.out.2.1, fin1.out.2.2, hB5⟩
                    case measure => simp [intOf]; omega
                  · have h6' : (e3 == 0) = false := by simpa using h6
                    have HL : Hid (unpL s = [] ∧ unpE s = e3) := FL.out e3 (by rw [S4.out rfl rfl]; rfl) h6
                    have bx := box3_new wr (.string k1) (.string ⟨#[]⟩) (.bool false) 68
                    obtain ⟨⟨q0, q1, q2⟩, f0, f1, f2⟩ := id bx
                    have hB2 : Below w.heap.size w (wr.alloc (.cells #[.string k1, .string ⟨#[]⟩, .bool false] 68)) := hB.alloc hB.size _
                    clear FL S1 S2 S3 S4 own hno hlo bx
                    go_wp2_with (first
  | (go_at_call 38; refine (c1 _).mono ?_; rintro y w' ⟨rfl, rfl⟩)
  | (go_at_call 39; have _t := tok1; refine (c2 _).mono ?_; rintro y w' ⟨rfl, rfl⟩; clear tok1 _t)
  | (go_at_call 39; refine (c3 _).mono ?_; rintro y w' ⟨rfl, rfl⟩)
                      )
                    go_ret2
                    exact ⟨none, 0, by rw [HL.out.1, HL.out.2]; rfl, by rw [HL.out.1]; exact isC_nil _ _ _ (Nat.zero_le _), hB2⟩
              · have h3' : (e2 == 0) = false := by simpa using h3
                have HL : Hid (unpL s = [] ∧ unpE s = e2) := by
                  by_cases h5 : X = 1
                  · exact FL.out e2 (by rw [S3.out rfl h5]) h3
                  · exact FL.out e2 (by rw [S4.out rfl (by omega)]; simp only [if_neg h3]) h3
                clear FL S1 S2 S3 S4
                have h2' : X ≤ 1 := by omega
                go_wp2_with (first
  | (go_at_call 38; refine (c1 _).mono ?_; rintro y w' ⟨rfl, rfl⟩)
  | (go_at_call 39; refine (c2 _).mono ?_; rintro y w' ⟨rfl, rfl⟩)
                  )
                go_ret2
                exact ⟨none, 0, by rw [HL.out.1, HL.out.2]; rfl, by rw [HL.out.1]; exact isC_nil _ _ _ (Nat.zero_le _), hB⟩
          · have h1' : (e1 == 0) = false := by simpa using h1
            have HL : Hid (unpL s = [] ∧ unpE s = e1) := FL.out e1 (S1.out h1) h1
            clear FL S1 S2 S3 S4
            go_wp2_with (first
  | (go_at_call 38; refine (c1 _).mono ?_; rintro y w' ⟨rfl, rfl⟩)
              )
            go_ret2
            exact ⟨none, 0, by rw [HL.out.1, HL.out.2]; rfl, by rw [HL.out.1]; exact isC_nil _ _ _ (Nat.zero_le _), hB⟩
        · obtain rfl : j = M := by omega
          have hF : chF s = A := by rw [HA.out, HM.out]; rfl
          have hE : Hid (unpE s = if P = s.size then (if A.cs.all mayC then 0 else 4) else 4) := by
            show _ = _
            unfold unpE
            rw [if_pos H4.out, hF, if_pos HZ.out, HP.out]
          have hL : Hid (unpL s = if unpE s = 0 then A.cs else []) := by show _ = _; unfold unpL; rw [hF]
          have hlen : Hid (A.cs.length = j) := by show _ = _; rw [HA.out]; exact chSt_len s j
          have hsz : Hid (∀ c ∈ A.cs, c.1.size ≤ maxLen ∧ c.2.1.size ≤ maxLen) := by
            show ∀ c ∈ A.cs, _
            intro c hc
            rw [HA.out] at hc
            have := chSt_size s j c hc
            have := HS.out
            exact ⟨by omega, by omega⟩
          have hjn : ¬ (j : Int) < j := by omega
          by_cases h5 : P = s.size
          · rw [if_pos h5] at hE
            subst h5
            have own1 : wr.ownsRow w.heap.size 68 3 u4 j (cellsC A.cs) := own.out
            obtain ⟨a, c, rfl, hI, -⟩ := owned_isC own1 hlen.out.symm hsz.out
            have HI : Hid (IsC wr a c A.cs) := hI
            generalize A.cs = cs at *
            clear own own1 hI HP HZ HA HNX hF hsz bad
            have hjb : j ≤ 9223372036854775807 := by omega
            generalize wr = W0 at *
            go_wp2
            go_loopw [91] (fun v wr => ∃ i : Nat, i ≤ j ∧ v = .int .i64 i ∧ (∀ (k : Nat) x, k < i → cs[k]? = some x → mayC x = true) ∧ Below W0.heap.size W0 wr) (fun v _ => j - (intOf v).toNat)
            case atStart => exact ⟨0, by omega, rfl, fun i x hi => by omega, Below.refl _ _⟩
            case round =>
              obtain ⟨i, hi, rfl, hA, hb⟩ := hrel
              have HA : Hid (∀ (k : Nat) x, k < i → cs[k]? = some x → mayC x = true) := hA
              clear hA
              have HIr : IsC wr a c cs := IsC.below HI.out hb
              have hBr : Below w.heap.size w wr := Below.tr hB hb
              by_cases hlt : i < j
              · have hin : (i : Int) < j := by omega
                obtain ⟨⟨k, v, g⟩, hx⟩ : ∃ x, cs[i]? = some x := ⟨_, List.getElem?_eq_getElem (by rw [hlen.out]; exact hlt)⟩
                obtain ⟨bk, o, rfl, hbk, d0, d1, d2, mk, mv⟩ := HIr.2.2 i _ hx
                have c1 := fun W => isChange_any k v g W mk mv
                have HX : Hid (cs[i]? = some (k, v, g)) := hx
                have bx := box3_new wr (.string k) (.string v) (.bool g) 68
                obtain ⟨⟨q0, q1, q2⟩, -⟩ := id bx
                have hb2 := hb.alloc hb.size (.cells #[.string k, .string v, .bool g] 68)
                clear hx hbk mk mv HIr bx hBr
                cases hm : mayC (k, v, g) with
                | true =>
                  rw [hm] at c1
                  replace hm : Hid (mayC (k, v, g) = true) := hm
                  go_wp2_with (go_at_call 35; refine (c1 _).mono ?_; rintro y w2 ⟨rfl, hb3⟩; replace hb2 := Below.tr hb2 hb3; clear hb3)
                  go_roundw
                  case rel =>
                    refine ⟨i + 1, by omega, by go_num, fun k x hk hx => ?_, hb2⟩
                    by_cases hij : k = i
                    · subst hij
                      rw [HX.out] at hx
                      obtain rfl := Option.some.inj hx
                      exact hm.out
                    · exact HA.out k x (by omega) hx
                  case measure => simp [intOf]; omega
                | false =>
                  have hall : cs.all mayC = false := by
                    rw [Bool.eq_false_iff]
                    intro hh
                    have := List.all_eq_true.1 hh _ (List.mem_of_getElem? HX.out)
                    rw [hm] at this
                    cases this
                  have hE4 : unpE s = 4 := by rw [hE.out, hall]; rfl
                  have HL : Hid (unpL s = [] ∧ unpE s = 4) := ⟨by rw [hL.out, hE4]; rfl, hE4⟩
                  rw [hm] at c1
                  clear hm hall hE4
                  go_wp2_with (go_at_call 35; refine (c1 _).mono ?_; rintro y w2 ⟨rfl, hb3⟩; replace hb2 := Below.tr hb2 hb3; clear hb3)
                  have hB2 := Below.tr hB hb2
                  go_ret2
                  exact ⟨none, 0, by rw [HL.out.1, HL.out.2]; rfl, by rw [HL.out.1]; exact isC_nil _ _ _ (Nat.zero_le _), hB2⟩
              · obtain rfl : i = j := by omega
                have hall : cs.all mayC = true := by
                  rw [List.all_eq_true]
                  intro x hx
                  obtain ⟨k, hk⟩ := List.getElem?_of_mem hx
                  have hlt := (List.getElem?_eq_some_iff.1 hk).1
                  exact HA.out k x (by have := hlen.out; omega) hk
                have hE0 : unpE s = 0 := by rw [hE.out, hall]; rfl
                have HL : Hid (unpL s = cs ∧ unpE s = 0) := ⟨by rw [hL.out, hE0]; rfl, hE0⟩
                have HI2 : Hid (IsC wr a c cs) := HIr
                have hin : ¬ (i : Int) < i := by omega
                clear hall hE0 HIr
                go_wp2
                go_ret2
                exact ⟨a, c, by rw [HL.out.1, HL.out.2, hlen.out]; rfl, by rw [HL.out.1]; exact HI2.out, hBr⟩
          · have h5' : (P == (s.size : Int)) = false := by simpa using h5
            rw [if_neg h5] at hE
            have HL : Hid (unpL s = [] ∧ unpE s = 4) := ⟨by rw [hL.out, hE.out]; rfl, hE.out⟩
            go_wp2
            go_ret2
            exact ⟨none, 0, by rw [HL.out.1, HL.out.2]; rfl, by rw [HL.out.1]; exact isC_nil _ _ _ (Nat.zero_le _), hB⟩
    · have h0' : (e0 == 0) = false := by simpa using h0
      have HL : Hid (unpL s = [] ∧ unpE s = e0) := bad.out e0 (unp_fail H4.out (Nat.zero_le _) (by rw [hst0.out]) h0) h0
      have hB : Below w.heap.size w (w.alloc (.cells #[] 68)) := (Below.refl _ _).alloc (Nat.le_refl _) _
      go_enter Try.func21, Try.ntmps21
      go_wp2_with (go_at_call 38; refine (c0 _).mono ?_; rintro y w' ⟨rfl, rfl⟩)
      go_ret2
      exact ⟨none, 0, by rw [HL.out.1, HL.out.2]; rfl, by rw [HL.out.1]; exact isC_nil _ _ _ (Nat.zero_le _), hB⟩
  · have h4' : ¬ (s.size : Int) ≤ 480 := by omega
    have HL : Hid (unpL s = [] ∧ unpE s = 2) := bad.out 2 (by unfold unpE; rw [if_neg h4]) (by decide)
    go_enter Try.func21, Try.ntmps21
    go_wp2
    go_ret2
    exact ⟨none, 0, by rw [HL.out.1, HL.out.2]; rfl, by rw [HL.out.1]; exact isC_nil _ _ _ (Nat.zero_le _), Below.refl _ _⟩

end Go.Proofs.Ytcdcnonkoffbhaa

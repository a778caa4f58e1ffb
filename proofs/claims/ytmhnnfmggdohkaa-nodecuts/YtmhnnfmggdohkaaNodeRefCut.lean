/-
  The document's own Cut.
-/
import Derived.Test.YtmhnnfmggdohkaaNodeRefCutP
import Derived.Test.YtmhnnfmggdohkaaNodeCutAll
namespace Go.Proofs.Ytmhnnfmggdohkaa
open Go.RowKit Plain Anylast
set_option linter.unusedVariables false

set_option maxRecDepth 20000 in
set_option maxHeartbeats 8000000 in
/-- CUT, the document's own. -/
theorem refCut_any (l : Bool) (a a' a'' : Option Addr) (c c' c'' n n' n'' : Nat) (ks vs : List ByteArray) (cs : List Int) (mid : ByteArray) (w : World)
    (hn : n = ks.length) (hn' : n' = vs.length) (hn'' : n'' = cs.length) (hK : IsS w a c ks) (hV : IsS w a' c' vs) (hC : IsI w a'' c'' cs) (hm : ks[4]? = some mid) (l1 : ks.length ≤ 4096) (l2 : vs.length ≤ 4096) (l3 : cs.length ≤ 4096) :
    Calls Try.prog 26 #[.agg #[.bool l, .slice a n c, .slice a' n' c', .slice a'' n'' c'']] w fun x w' => Answers3 w x w' l (ks.take 4) (vs.take 4) (cs.take 5) mid (ks.drop (cutFrom l)) (vs.drop 4) (cs.drop 5) := by
  have D0 : Cut3 w (((((w.alloc (.cells #[.bool l, .slice a n c, .slice a' n' c', .slice a'' n'' c''] 25)).alloc (.cells #[.bool false, .slice none 0 0, .slice none 0 0, .slice none 0 0] 25)).alloc (.cells #[.bool false, .slice none 0 0, .slice none 0 0, .slice none 0 0] 25)).alloc (.cells #[.bool l, .slice none 0 0, .slice none 0 0, .slice none 0 0] 25)).alloc (.cells #[.bool l, .slice none 0 0, .slice none 0 0, .slice none 0 0] 25)) l (.slice a n c) (.slice a' n' c') (.slice a'' n'' c'') (.slice none 0 0) (.slice none 0 0) (.slice none 0 0) [] [] [] (.slice none 0 0) (.slice none 0 0) (.slice none 0 0) [] [] [] :=
    ⟨⟨nodeAt_new ((box4_new _ _ _ _ _ _ (by simp)).alloc _) (by simp), nodeAt_new (box4_new _ _ _ _ _ _ (by simp)) (by simp), by omega, by omega, by omega, fun g h => by rcases h with h | h | h <;> simp [Value.ownBlock] at h⟩, ((((box4_new _ _ _ _ _ _ rfl).alloc _).alloc _).alloc _).alloc _, (((box4_new _ _ _ _ _ _ (by simp)).alloc _).alloc _).alloc _, ((box4_new _ _ _ _ _ _ (by simp)).alloc _).alloc _, (((((Below.refl _ _).alloc (Nat.le_refl _) _).alloc (by simp) _).alloc (by simp; omega) _).alloc (by simp; omega) _).alloc (by simp; omega) _⟩
  obtain ⟨W, hW⟩ : ∃ W, W = (((((w.alloc (.cells #[.bool l, .slice a n c, .slice a' n' c', .slice a'' n'' c''] 25)).alloc (.cells #[.bool false, .slice none 0 0, .slice none 0 0, .slice none 0 0] 25)).alloc (.cells #[.bool false, .slice none 0 0, .slice none 0 0, .slice none 0 0] 25)).alloc (.cells #[.bool l, .slice none 0 0, .slice none 0 0, .slice none 0 0] 25)).alloc (.cells #[.bool l, .slice none 0 0, .slice none 0 0, .slice none 0 0] 25)) := ⟨_, rfl⟩
  rw [← hW] at D0
  obtain ⟨⟨z0, z1, z2, z3⟩, -⟩ := id D0.b
  have E1 : Hid (n = ks.length) := hn
  have E2 : Hid (n' = vs.length) := hn'
  have E3 : Hid (n'' = cs.length) := hn''
  have R1 : Hid (IsS w a c ks) := hK
  have R2 : Hid (IsS w a' c' vs) := hV
  have R3 : Hid (IsI w a'' c'' cs) := hC
  have L1 : Hid (ks.length ≤ 4096) := l1
  have L2 : Hid (vs.length ≤ 4096) := l2
  have L3 : Hid (cs.length ≤ 4096) := l3
  have hmid : Hid (ks[4]? = some mid) := hm
  have I5 : Hid (4 < n) := by have := (List.getElem?_eq_some_iff.1 hm).1; show 4 < n; omega
  have mm1 : n ≤ 9223372036854775807 := by rw [hn]; exact hK.size
  have mm2 : n' ≤ 9223372036854775807 := by rw [hn']; exact hV.size
  have mm3 : n'' ≤ 9223372036854775807 := by rw [hn'']; exact hC.size
  clear hn hn' hn'' hK hV hC hm l1 l2 l3
  go_enter Try.func26, Try.ntmps26
  go_wp2
  rw [← hW]
  clear hW
  go_loopw [22] (fun v wr => ∃ (j : Nat) (u u' : Value), j ≤ n ∧ v = .int .i64 j ∧ Cut3 w wr l (.slice a n c) (.slice a' n' c') (.slice a'' n'' c'') u (.slice none 0 0) (.slice none 0 0) ((ks.take j).take 4) [] [] u' (.slice none 0 0) (.slice none 0 0) ((ks.take j).drop (cutFrom l)) [] []) (fun v _ => n - (intOf v).toNat)
  case atStart => exact ⟨0, (.slice none 0 0), (.slice none 0 0), by omega, rfl, by rw [List.take_zero, List.take_nil, List.drop_nil]; exact D0⟩
  case round =>
    clear D0 z0 z1 z2 z3
    obtain ⟨j, u1, v1, hj, rfl, D⟩ := hrel
    by_cases hlt : j < n
    · have hlt' : (j : Int) < n := by omega
      obtain ⟨x, hx⟩ : ∃ x, Hid (ks[j]? = some x) := ⟨_, List.getElem?_eq_getElem (by rw [← E1.out]; exact hlt)⟩
      obtain ⟨b, o, rfl, hlb, hc0, hxs⟩ := R1.out.2.2 j x hx.out
      have hc := cell_below D.lo hc0
      have l1 : ((ks.take j).take 4).length ≤ 4096 := Nat.le_trans (fst_len _ _ _) L1.out
      have l2 : ((ks.take j).drop (cutFrom l)).length ≤ 4096 := Nat.le_trans (snd_len _ _ _) L1.out
      obtain ⟨⟨q0, q1, q2, q3⟩, -⟩ := id D.b
      obtain ⟨F, hF⟩ : ∃ F, F = ((ks.take j).take 4) := ⟨_, rfl⟩
      obtain ⟨G, hG⟩ : ∃ G, G = ((ks.take j).drop (cutFrom l)) := ⟨_, rfl⟩
      rw [← hF, ← hG] at D
      rw [← hF] at l1
      rw [← hG] at l2
      have HF : Hid (F = ((ks.take j).take 4)) := hF
      have HG : Hid (G = ((ks.take j).drop (cutFrom l))) := hG
      clear hF hG hc0 hlb
      by_cases h4 : j < 4
      · obtain ⟨g, cap, U, hrun, bU, D'⟩ := D.pushA1 x l1
        have hfin : Hid (Cut3 w (U.setCell ⟨w.heap.size + 3, 1, none⟩ (.slice (some ⟨g, 0, none⟩) (F.length + 1) cap)) l (.slice (some ⟨b, o, none⟩) n c) (.slice a' n' c') (.slice a'' n'' c'') (.slice (some ⟨g, 0, none⟩) (F.length + 1) cap) (.slice none 0 0) (.slice none 0 0) ((ks.take (j + 1)).take 4) [] [] v1 (.slice none 0 0) (.slice none 0 0) ((ks.take (j + 1)).drop (cutFrom l)) [] []) := by show Cut3 w (U.setCell ⟨w.heap.size + 3, 1, none⟩ (.slice (some ⟨g, 0, none⟩) (F.length + 1) cap)) l (.slice (some ⟨b, o, none⟩) n c) (.slice a' n' c') (.slice a'' n'' c'') (.slice (some ⟨g, 0, none⟩) (F.length + 1) cap) (.slice none 0 0) (.slice none 0 0) ((ks.take (j + 1)).take 4) [] [] v1 (.slice none 0 0) (.slice none 0 0) ((ks.take (j + 1)).drop (cutFrom l)) [] []; rw [fst_more hx.out h4, snd_same ks (Nat.lt_of_lt_of_le h4 (by unfold cutFrom; split <;> omega)), ← HF.out, ← HG.out]; exact D'
        obtain ⟨⟨n0, n1, n2, n3⟩, -⟩ := D.p.A.box
        obtain ⟨⟨o0, o1, o2, o3⟩, m0, m1, m2, m3⟩ := bU
        clear D D' l1 l2
        have h4' : (j : Int) < 4 := by omega
        go_wp2_with (at_builtin; refine Lib.wpList_append_run _ rfl _ _ _ _ rfl _ _ rfl rfl _ _ hrun ?_)
        go_roundw
        case rel => exact ⟨j + 1, _, _, by omega, by go_num, hfin.out⟩
        case measure => simp [intOf]; omega
      · have h4' : ¬ (j : Int) < 4 := by omega
        cases l with
        | true =>
          by_cases h5 : j = 4
          · obtain ⟨g, cap, U, hrun, bU, D'⟩ := D.pushC1 x l2
            have hfin : Hid (Cut3 w (U.setCell ⟨w.heap.size + 4, 1, none⟩ (.slice (some ⟨g, 0, none⟩) (G.length + 1) cap)) true (.slice (some ⟨b, o, none⟩) n c) (.slice a' n' c') (.slice a'' n'' c'') u1 (.slice none 0 0) (.slice none 0 0) ((ks.take (j + 1)).take 4) [] [] (.slice (some ⟨g, 0, none⟩) (G.length + 1) cap) (.slice none 0 0) (.slice none 0 0) ((ks.take (j + 1)).drop (cutFrom true)) [] []) := by show Cut3 w (U.setCell ⟨w.heap.size + 4, 1, none⟩ (.slice (some ⟨g, 0, none⟩) (G.length + 1) cap)) true (.slice (some ⟨b, o, none⟩) n c) (.slice a' n' c') (.slice a'' n'' c'') u1 (.slice none 0 0) (.slice none 0 0) ((ks.take (j + 1)).take 4) [] [] (.slice (some ⟨g, 0, none⟩) (G.length + 1) cap) (.slice none 0 0) (.slice none 0 0) ((ks.take (j + 1)).drop (cutFrom true)) [] []; rw [fst_same ks (by omega), snd_more hx.out (d := cutFrom true) (by show 4 ≤ j; omega), ← HF.out, ← HG.out]; exact D'
            obtain ⟨⟨n0, n1, n2, n3⟩, -⟩ := D.p.C.box
            obtain ⟨⟨o0, o1, o2, o3⟩, m0, m1, m2, m3⟩ := bU
            clear D D' l1 l2
            have h5' : (j : Int) ≤ 4 := by omega
            clear h5
            go_wp2_with (at_builtin; refine Lib.wpList_append_run _ rfl _ _ _ _ rfl _ _ rfl rfl _ _ hrun ?_)
            go_roundw
            case rel => exact ⟨j + 1, _, _, by omega, by go_num, hfin.out⟩
            case measure => simp [intOf]; omega
          · obtain ⟨g, cap, U, hrun, bU, D'⟩ := D.pushC1 x l2
            have hfin : Hid (Cut3 w (U.setCell ⟨w.heap.size + 4, 1, none⟩ (.slice (some ⟨g, 0, none⟩) (G.length + 1) cap)) true (.slice (some ⟨b, o, none⟩) n c) (.slice a' n' c') (.slice a'' n'' c'') u1 (.slice none 0 0) (.slice none 0 0) ((ks.take (j + 1)).take 4) [] [] (.slice (some ⟨g, 0, none⟩) (G.length + 1) cap) (.slice none 0 0) (.slice none 0 0) ((ks.take (j + 1)).drop (cutFrom true)) [] []) := by show Cut3 w (U.setCell ⟨w.heap.size + 4, 1, none⟩ (.slice (some ⟨g, 0, none⟩) (G.length + 1) cap)) true (.slice (some ⟨b, o, none⟩) n c) (.slice a' n' c') (.slice a'' n'' c'') u1 (.slice none 0 0) (.slice none 0 0) ((ks.take (j + 1)).take 4) [] [] (.slice (some ⟨g, 0, none⟩) (G.length + 1) cap) (.slice none 0 0) (.slice none 0 0) ((ks.take (j + 1)).drop (cutFrom true)) [] []; rw [fst_same ks (by omega), snd_more hx.out (d := cutFrom true) (by show 4 ≤ j; omega), ← HF.out, ← HG.out]; exact D'
            obtain ⟨⟨n0, n1, n2, n3⟩, -⟩ := D.p.C.box
            obtain ⟨⟨o0, o1, o2, o3⟩, m0, m1, m2, m3⟩ := bU
            clear D D' l1 l2
            have h5' : ¬ (j : Int) ≤ 4 := by omega
            go_wp2_with (at_builtin; refine Lib.wpList_append_run _ rfl _ _ _ _ rfl _ _ rfl rfl _ _ hrun ?_)
            go_roundw
            case rel => exact ⟨j + 1, _, _, by omega, by go_num, hfin.out⟩
            case measure => simp [intOf]; omega
        | false =>
          by_cases h5 : j = 4
          · have hfin : Hid (Cut3 w wr false (.slice (some ⟨b, o, none⟩) n c) (.slice a' n' c') (.slice a'' n'' c'') u1 (.slice none 0 0) (.slice none 0 0) ((ks.take (j + 1)).take 4) [] [] v1 (.slice none 0 0) (.slice none 0 0) ((ks.take (j + 1)).drop (cutFrom false)) [] []) := by show Cut3 w wr false (.slice (some ⟨b, o, none⟩) n c) (.slice a' n' c') (.slice a'' n'' c'') u1 (.slice none 0 0) (.slice none 0 0) ((ks.take (j + 1)).take 4) [] [] v1 (.slice none 0 0) (.slice none 0 0) ((ks.take (j + 1)).drop (cutFrom false)) [] []; rw [fst_same ks (by omega), snd_same ks (d := cutFrom false) (by show j < 5; omega), ← HF.out, ← HG.out]; exact D
            clear D l1 l2
            have h5' : (j : Int) ≤ 4 := by omega
            clear h5
            go_wp2
            go_roundw
            case rel => exact ⟨j + 1, _, _, by omega, by go_num, hfin.out⟩
            case measure => simp [intOf]; omega
          · obtain ⟨g, cap, U, hrun, bU, D'⟩ := D.pushC1 x l2
            have hfin : Hid (Cut3 w (U.setCell ⟨w.heap.size + 4, 1, none⟩ (.slice (some ⟨g, 0, none⟩) (G.length + 1) cap)) false (.slice (some ⟨b, o, none⟩) n c) (.slice a' n' c') (.slice a'' n'' c'') u1 (.slice none 0 0) (.slice none 0 0) ((ks.take (j + 1)).take 4) [] [] (.slice (some ⟨g, 0, none⟩) (G.length + 1) cap) (.slice none 0 0) (.slice none 0 0) ((ks.take (j + 1)).drop (cutFrom false)) [] []) := by show Cut3 w (U.setCell ⟨w.heap.size + 4, 1, none⟩ (.slice (some ⟨g, 0, none⟩) (G.length + 1) cap)) false (.slice (some ⟨b, o, none⟩) n c) (.slice a' n' c') (.slice a'' n'' c'') u1 (.slice none 0 0) (.slice none 0 0) ((ks.take (j + 1)).take 4) [] [] (.slice (some ⟨g, 0, none⟩) (G.length + 1) cap) (.slice none 0 0) (.slice none 0 0) ((ks.take (j + 1)).drop (cutFrom false)) [] []; rw [fst_same ks (by omega), snd_more hx.out (d := cutFrom false) (by show 5 ≤ j; omega), ← HF.out, ← HG.out]; exact D'
            obtain ⟨⟨n0, n1, n2, n3⟩, -⟩ := D.p.C.box
            obtain ⟨⟨o0, o1, o2, o3⟩, m0, m1, m2, m3⟩ := bU
            clear D D' l1 l2
            have h5' : ¬ (j : Int) ≤ 4 := by omega
            go_wp2_with (at_builtin; refine Lib.wpList_append_run _ rfl _ _ _ _ rfl _ _ rfl rfl _ _ hrun ?_)
            go_roundw
            case rel => exact ⟨j + 1, _, _, by omega, by go_num, hfin.out⟩
            case measure => simp [intOf]; omega
    · obtain rfl : n = j := by omega
      have hj0 : ¬ (n : Int) < n := by omega
      have ek : ks.take n = ks := by rw [E1.out]; exact List.take_length
      rw [ek] at D
      clear ek
      obtain ⟨K1, hK1⟩ : ∃ K, K = ks.take 4 := ⟨_, rfl⟩
      obtain ⟨M1, hM1⟩ : ∃ K, K = ks.drop (cutFrom l) := ⟨_, rfl⟩
      rw [← hK1, ← hM1] at D
      have HK1 : Hid (K1 = ks.take 4) := hK1
      have HM1 : Hid (M1 = ks.drop (cutFrom l)) := hM1
      clear hK1 hM1
      obtain ⟨⟨q0, q1, q2, q3⟩, -⟩ := id D.b
      have D0 := D
      clear D
      obtain ⟨⟨z0, z1, z2, z3⟩, -⟩ := id D0.b
      clear q0 q1 q2 q3
      go_wp2
      go_loopw [51] (fun v wr => ∃ (j : Nat) (u u' : Value), j ≤ n' ∧ v = .int .i64 j ∧ Cut3 w wr l (.slice a n c) (.slice a' n' c') (.slice a'' n'' c'') u1 u (.slice none 0 0) K1 ((vs.take j).take 4) [] v1 u' (.slice none 0 0) M1 ((vs.take j).drop 4) []) (fun v _ => n' - (intOf v).toNat)
      case atStart => exact ⟨0, (.slice none 0 0), (.slice none 0 0), by omega, rfl, by rw [List.take_zero, List.take_nil, List.drop_nil]; exact D0⟩
      case round =>
        clear D0 z0 z1 z2 z3
        obtain ⟨j, u2, v2, hj, rfl, D⟩ := hrel
        by_cases hlt : j < n'
        · have hlt' : (j : Int) < n' := by omega
          obtain ⟨x, hx⟩ : ∃ x, Hid (vs[j]? = some x) := ⟨_, List.getElem?_eq_getElem (by rw [← E2.out]; exact hlt)⟩
          obtain ⟨b, o, rfl, hlb, hc0, hxs⟩ := R2.out.2.2 j x hx.out
          have hc := cell_below D.lo hc0
          have l1 : ((vs.take j).take 4).length ≤ 4096 := Nat.le_trans (fst_len _ _ _) L2.out
          have l2 : ((vs.take j).drop 4).length ≤ 4096 := Nat.le_trans (snd_len _ _ _) L2.out
          obtain ⟨⟨q0, q1, q2, q3⟩, -⟩ := id D.b
          obtain ⟨F, hF⟩ : ∃ F, F = ((vs.take j).take 4) := ⟨_, rfl⟩
          obtain ⟨G, hG⟩ : ∃ G, G = ((vs.take j).drop 4) := ⟨_, rfl⟩
          rw [← hF, ← hG] at D
          rw [← hF] at l1
          rw [← hG] at l2
          have HF : Hid (F = ((vs.take j).take 4)) := hF
          have HG : Hid (G = ((vs.take j).drop 4)) := hG
          clear hF hG hc0 hlb
          by_cases h4 : j < 4
          · obtain ⟨g, cap, U, hrun, bU, D'⟩ := D.pushA2 x l1
            have hfin : Hid (Cut3 w (U.setCell ⟨w.heap.size + 3, 2, none⟩ (.slice (some ⟨g, 0, none⟩) (F.length + 1) cap)) l (.slice a n c) (.slice (some ⟨b, o, none⟩) n' c') (.slice a'' n'' c'') u1 (.slice (some ⟨g, 0, none⟩) (F.length + 1) cap) (.slice none 0 0) K1 ((vs.take (j + 1)).take 4) [] v1 v2 (.slice none 0 0) M1 ((vs.take (j + 1)).drop 4) []) := by show Cut3 w (U.setCell ⟨w.heap.size + 3, 2, none⟩ (.slice (some ⟨g, 0, none⟩) (F.length + 1) cap)) l (.slice a n c) (.slice (some ⟨b, o, none⟩) n' c') (.slice a'' n'' c'') u1 (.slice (some ⟨g, 0, none⟩) (F.length + 1) cap) (.slice none 0 0) K1 ((vs.take (j + 1)).take 4) [] v1 v2 (.slice none 0 0) M1 ((vs.take (j + 1)).drop 4) []; rw [fst_more hx.out h4, snd_same vs h4, ← HF.out, ← HG.out]; exact D'
            obtain ⟨⟨n0, n1, n2, n3⟩, -⟩ := D.p.A.box
            obtain ⟨⟨o0, o1, o2, o3⟩, m0, m1, m2, m3⟩ := bU
            clear D D' l1 l2
            have h4' : (j : Int) < 4 := by omega
            go_wp2_with (at_builtin; refine Lib.wpList_append_run _ rfl _ _ _ _ rfl _ _ rfl rfl _ _ hrun ?_)
            go_roundw
            case rel => exact ⟨j + 1, _, _, by omega, by go_num, hfin.out⟩
            case measure => simp [intOf]; omega
          · obtain ⟨g, cap, U, hrun, bU, D'⟩ := D.pushC2 x l2
            have hfin : Hid (Cut3 w (U.setCell ⟨w.heap.size + 4, 2, none⟩ (.slice (some ⟨g, 0, none⟩) (G.length + 1) cap)) l (.slice a n c) (.slice (some ⟨b, o, none⟩) n' c') (.slice a'' n'' c'') u1 u2 (.slice none 0 0) K1 ((vs.take (j + 1)).take 4) [] v1 (.slice (some ⟨g, 0, none⟩) (G.length + 1) cap) (.slice none 0 0) M1 ((vs.take (j + 1)).drop 4) []) := by show Cut3 w (U.setCell ⟨w.heap.size + 4, 2, none⟩ (.slice (some ⟨g, 0, none⟩) (G.length + 1) cap)) l (.slice a n c) (.slice (some ⟨b, o, none⟩) n' c') (.slice a'' n'' c'') u1 u2 (.slice none 0 0) K1 ((vs.take (j + 1)).take 4) [] v1 (.slice (some ⟨g, 0, none⟩) (G.length + 1) cap) (.slice none 0 0) M1 ((vs.take (j + 1)).drop 4) []; rw [fst_same vs (by omega), snd_more hx.out (by omega), ← HF.out, ← HG.out]; exact D'
            obtain ⟨⟨n0, n1, n2, n3⟩, -⟩ := D.p.C.box
            obtain ⟨⟨o0, o1, o2, o3⟩, m0, m1, m2, m3⟩ := bU
            clear D D' l1 l2
            have h4' : ¬ (j : Int) < 4 := by omega
            go_wp2_with (at_builtin; refine Lib.wpList_append_run _ rfl _ _ _ _ rfl _ _ rfl rfl _ _ hrun ?_)
            go_roundw
            case rel => exact ⟨j + 1, _, _, by omega, by go_num, hfin.out⟩
            case measure => simp [intOf]; omega
        · obtain rfl : n' = j := by omega
          have hj0 : ¬ (n' : Int) < n' := by omega
          have ek : vs.take n' = vs := by rw [E2.out]; exact List.take_length
          rw [ek] at D
          clear ek
          obtain ⟨K2, hK2⟩ : ∃ K, K = vs.take 4 := ⟨_, rfl⟩
          obtain ⟨M2, hM2⟩ : ∃ K, K = vs.drop 4 := ⟨_, rfl⟩
          rw [← hK2, ← hM2] at D
          have HK2 : Hid (K2 = vs.take 4) := hK2
          have HM2 : Hid (M2 = vs.drop 4) := hM2
          clear hK2 hM2
          obtain ⟨⟨q0, q1, q2, q3⟩, -⟩ := id D.b
          have D0 := D
          clear D
          obtain ⟨⟨z0, z1, z2, z3⟩, -⟩ := id D0.b
          clear q0 q1 q2 q3
          go_wp2
          go_loopw [74] (fun v wr => ∃ (j : Nat) (u u' : Value), j ≤ n'' ∧ v = .int .i64 j ∧ Cut3 w wr l (.slice a n c) (.slice a' n' c') (.slice a'' n'' c'') u1 u2 u K1 K2 ((cs.take j).take 5) v1 v2 u' M1 M2 ((cs.take j).drop 5)) (fun v _ => n'' - (intOf v).toNat)
          case atStart => exact ⟨0, (.slice none 0 0), (.slice none 0 0), by omega, rfl, by rw [List.take_zero, List.take_nil, List.drop_nil]; exact D0⟩
          case round =>
            clear D0 z0 z1 z2 z3
            obtain ⟨j, u3, v3, hj, rfl, D⟩ := hrel
            by_cases hlt : j < n''
            · have hlt' : (j : Int) < n'' := by omega
              obtain ⟨x, hx⟩ : ∃ x, Hid (cs[j]? = some x) := ⟨_, List.getElem?_eq_getElem (by rw [← E3.out]; exact hlt)⟩
              obtain ⟨b, o, rfl, hlb, hc0⟩ := R3.out.2.2 j x hx.out
              have hc := cell_below D.lo hc0
              have l1 : ((cs.take j).take 5).length ≤ 4096 := Nat.le_trans (fst_len _ _ _) L3.out
              have l2 : ((cs.take j).drop 5).length ≤ 4096 := Nat.le_trans (snd_len _ _ _) L3.out
              obtain ⟨⟨q0, q1, q2, q3⟩, -⟩ := id D.b
              obtain ⟨F, hF⟩ : ∃ F, F = ((cs.take j).take 5) := ⟨_, rfl⟩
              obtain ⟨G, hG⟩ : ∃ G, G = ((cs.take j).drop 5) := ⟨_, rfl⟩
              rw [← hF, ← hG] at D
              rw [← hF] at l1
              rw [← hG] at l2
              have HF : Hid (F = ((cs.take j).take 5)) := hF
              have HG : Hid (G = ((cs.take j).drop 5)) := hG
              clear hF hG hc0 hlb
              by_cases h4 : j < 5
              · obtain ⟨g, cap, U, hrun, bU, D'⟩ := D.pushA3 x l1
                have hfin : Hid (Cut3 w (U.setCell ⟨w.heap.size + 3, 3, none⟩ (.slice (some ⟨g, 0, none⟩) (F.length + 1) cap)) l (.slice a n c) (.slice a' n' c') (.slice (some ⟨b, o, none⟩) n'' c'') u1 u2 (.slice (some ⟨g, 0, none⟩) (F.length + 1) cap) K1 K2 ((cs.take (j + 1)).take 5) v1 v2 v3 M1 M2 ((cs.take (j + 1)).drop 5)) := by show Cut3 w (U.setCell ⟨w.heap.size + 3, 3, none⟩ (.slice (some ⟨g, 0, none⟩) (F.length + 1) cap)) l (.slice a n c) (.slice a' n' c') (.slice (some ⟨b, o, none⟩) n'' c'') u1 u2 (.slice (some ⟨g, 0, none⟩) (F.length + 1) cap) K1 K2 ((cs.take (j + 1)).take 5) v1 v2 v3 M1 M2 ((cs.take (j + 1)).drop 5); rw [fst_more hx.out h4, snd_same cs h4, ← HF.out, ← HG.out]; exact D'
                obtain ⟨⟨n0, n1, n2, n3⟩, -⟩ := D.p.A.box
                obtain ⟨⟨o0, o1, o2, o3⟩, m0, m1, m2, m3⟩ := bU
                clear D D' l1 l2
                have h4' : (j : Int) < 5 := by omega
                go_wp2_with (at_builtin; refine Lib.wpList_append_run _ rfl _ _ _ _ rfl _ _ rfl rfl _ _ hrun ?_)
                go_roundw
                case rel => exact ⟨j + 1, _, _, by omega, by go_num, hfin.out⟩
                case measure => simp [intOf]; omega
              · obtain ⟨g, cap, U, hrun, bU, D'⟩ := D.pushC3 x l2
                have hfin : Hid (Cut3 w (U.setCell ⟨w.heap.size + 4, 3, none⟩ (.slice (some ⟨g, 0, none⟩) (G.length + 1) cap)) l (.slice a n c) (.slice a' n' c') (.slice (some ⟨b, o, none⟩) n'' c'') u1 u2 u3 K1 K2 ((cs.take (j + 1)).take 5) v1 v2 (.slice (some ⟨g, 0, none⟩) (G.length + 1) cap) M1 M2 ((cs.take (j + 1)).drop 5)) := by show Cut3 w (U.setCell ⟨w.heap.size + 4, 3, none⟩ (.slice (some ⟨g, 0, none⟩) (G.length + 1) cap)) l (.slice a n c) (.slice a' n' c') (.slice (some ⟨b, o, none⟩) n'' c'') u1 u2 u3 K1 K2 ((cs.take (j + 1)).take 5) v1 v2 (.slice (some ⟨g, 0, none⟩) (G.length + 1) cap) M1 M2 ((cs.take (j + 1)).drop 5); rw [fst_same cs (by omega), snd_more hx.out (by omega), ← HF.out, ← HG.out]; exact D'
                obtain ⟨⟨n0, n1, n2, n3⟩, -⟩ := D.p.C.box
                obtain ⟨⟨o0, o1, o2, o3⟩, m0, m1, m2, m3⟩ := bU
                clear D D' l1 l2
                have h4' : ¬ (j : Int) < 5 := by omega
                go_wp2_with (at_builtin; refine Lib.wpList_append_run _ rfl _ _ _ _ rfl _ _ rfl rfl _ _ hrun ?_)
                go_roundw
                case rel => exact ⟨j + 1, _, _, by omega, by go_num, hfin.out⟩
                case measure => simp [intOf]; omega
            · obtain rfl : n'' = j := by omega
              have hj0 : ¬ (n'' : Int) < n'' := by omega
              have ek : cs.take n'' = cs := by rw [E3.out]; exact List.take_length
              rw [ek] at D
              clear ek
              obtain ⟨K3, hK3⟩ : ∃ K, K = cs.take 5 := ⟨_, rfl⟩
              obtain ⟨M3, hM3⟩ : ∃ K, K = cs.drop 5 := ⟨_, rfl⟩
              rw [← hK3, ← hM3] at D
              have HK3 : Hid (K3 = cs.take 5) := hK3
              have HM3 : Hid (M3 = cs.drop 5) := hM3
              clear hK3 hM3
              obtain ⟨p1, k1, p2, k2, p3, k3, d1, d2, d3, rfl, rfl, rfl, e1, e2, e3, i1, i2, i3, j1, j2, j3⟩ := D.p.A.rowsN (by rw [HK1.out]; exact fun x hx => isS_sizes R1.out x (List.mem_of_mem_take hx)) (by rw [HK2.out]; exact fun x hx => isS_sizes R2.out x (List.mem_of_mem_take hx))
              obtain ⟨p4, k4, p5, k5, p6, k6, d4, d5, d6, rfl, rfl, rfl, e4, e5, e6, i4, i5, i6, j4, j5, j6⟩ := D.p.C.rowsN (by rw [HM1.out]; exact fun x hx => isS_sizes R1.out x (List.mem_of_mem_drop hx)) (by rw [HM2.out]; exact fun x hx => isS_sizes R2.out x (List.mem_of_mem_drop hx))
              have HE : Hid (k1 = K1.length ∧ k2 = K2.length ∧ k3 = K3.length ∧ k4 = M1.length ∧ k5 = M2.length ∧ k6 = M3.length) := ⟨e1, e2, e3, e4, e5, e6⟩
              have HI : Hid (IsS wr p1 d1 K1 ∧ IsS wr p2 d2 K2 ∧ IsI wr p3 d3 K3 ∧ IsS wr p4 d4 M1 ∧ IsS wr p5 d5 M2 ∧ IsI wr p6 d6 M3) := ⟨i1, i2, i3, i4, i5, i6⟩
              have HJ : Hid (From (w.heap.size + 5) p1 ∧ From (w.heap.size + 5) p2 ∧ From (w.heap.size + 5) p3 ∧ From (w.heap.size + 5) p4 ∧ From (w.heap.size + 5) p5 ∧ From (w.heap.size + 5) p6) := ⟨j1, j2, j3, j4, j5, j6⟩
              clear e1 e2 e3 e4 e5 e6 i1 i2 i3 i4 i5 i6 j1 j2 j3 j4 j5 j6
              obtain ⟨b, o, rfl, hbl, hcm, hms⟩ := R1.out.2.2 4 mid hmid.out
              have hcm0 := cell_below D.lo hcm
              obtain ⟨V7, hV7⟩ : ∃ X, X = wr.drew := ⟨_, rfl⟩
              have A1 : Box4 V7 w.heap.size (.bool l) (.slice (some ⟨b, o, none⟩) n c) (.slice a' n' c') (.slice a'' n'' c'') := by rw [hV7]; exact D.b.drew
              have A2 : Box4 V7 (w.heap.size + 1) (.bool false) (.slice none 0 0) (.slice none 0 0) (.slice none 0 0) := by rw [hV7]; exact D.b1.drew
              have A4 : Box4 V7 (w.heap.size + 2) (.bool false) (.slice none 0 0) (.slice none 0 0) (.slice none 0 0) := by rw [hV7]; exact D.b2.drew
              have D6 : Box4 V7 (w.heap.size + 3) (.bool l) (.slice p1 k1 d1) (.slice p2 k2 d2) (.slice p3 k3 d3) := by rw [hV7]; exact D.p.A.box.drew
              have D7 : Box4 V7 (w.heap.size + 4) (.bool l) (.slice p4 k4 d4) (.slice p5 k5 d5) (.slice p6 k6 d6) := by rw [hV7]; exact D.p.C.box.drew
              replace hcm0 : V7.cell? ⟨b, o + 4, none⟩ = some (.string mid) := by rw [hV7]; exact hcm0
              have HB : Below w.heap.size w V7 := by rw [hV7]; exact D.lo.drew
              replace HI : Hid (IsS V7 p1 d1 K1 ∧ IsS V7 p2 d2 K2 ∧ IsI V7 p3 d3 K3 ∧ IsS V7 p4 d4 M1 ∧ IsS V7 p5 d5 M2 ∧ IsI V7 p6 d6 M3) := by rw [hV7]; exact HI
              obtain ⟨V8, hV8⟩ : ∃ X, X = ((((V7.setCell ⟨w.heap.size + 1, 0, none⟩ (.bool l)).setCell ⟨w.heap.size + 1, 1, none⟩ (.slice p1 k1 d1)).setCell ⟨w.heap.size + 1, 2, none⟩ (.slice p2 k2 d2)).setCell ⟨w.heap.size + 1, 3, none⟩ (.slice p3 k3 d3)) := ⟨_, rfl⟩
              obtain ⟨V9, hV9⟩ : ∃ X, X = ((((V8.setCell ⟨w.heap.size + 2, 0, none⟩ (.bool l)).setCell ⟨w.heap.size + 2, 1, none⟩ (.slice p4 k4 d4)).setCell ⟨w.heap.size + 2, 2, none⟩ (.slice p5 k5 d5)).setCell ⟨w.heap.size + 2, 3, none⟩ (.slice p6 k6 d6)) := ⟨_, rfl⟩
              have T8 : Turns (fun k => k = w.heap.size + 1) V7 V8 := by rw [hV8]; exact turns_put4 V7 _ _ _ _ _
              have T9 : Turns (fun k => k = w.heap.size + 2) V8 V9 := by rw [hV9]; exact turns_put4 V8 _ _ _ _ _
              have A18 := A1.turns T8 (by omega)
              have A28 : Box4 V8 (w.heap.size + 1) (.bool l) (.slice p1 k1 d1) (.slice p2 k2 d2) (.slice p3 k3 d3) := by rw [hV8]; exact A2.put _ _ _ _
              have A48 := A4.turns T8 (by omega)
              have D78 := D7.turns T8 (by omega)
              have hcm8 : V8.cell? ⟨b, o + 4, none⟩ = some (.string mid) := T8.cell (p := ⟨b, o + 4, none⟩) (by show ¬ b = w.heap.size + 1; omega) hcm0
              have A29 := A28.turns T9 (by omega)
              have A49 : Box4 V9 (w.heap.size + 2) (.bool l) (.slice p4 k4 d4) (.slice p5 k5 d5) (.slice p6 k6 d6) := by rw [hV9]; exact A48.put _ _ _ _
              have HB9 : Hid (Below w.heap.size w V9) := Below.turns (Below.turns HB T8 (fun k hk => by omega)) T9 (fun k hk => by omega)
              replace HI : Hid (IsS V9 p1 d1 K1 ∧ IsS V9 p2 d2 K2 ∧ IsI V9 p3 d3 K3 ∧ IsS V9 p4 d4 M1 ∧ IsS V9 p5 d5 M2 ∧ IsI V9 p6 d6 M3) := by
                obtain ⟨i1, i2, i3, i4, i5, i6⟩ := HI.out
                obtain ⟨j1, j2, j3, j4, j5, j6⟩ := HJ.out
                exact ⟨(i1.turns T8 (fun x hx e => by have := j1 x hx; omega)).turns T9 (fun x hx e => by have := j1 x hx; omega), (i2.turns T8 (fun x hx e => by have := j2 x hx; omega)).turns T9 (fun x hx e => by have := j2 x hx; omega), (i3.turns T8 (fun x hx e => by have := j3 x hx; omega)).turns T9 (fun x hx e => by have := j3 x hx; omega), (i4.turns T8 (fun x hx e => by have := j4 x hx; omega)).turns T9 (fun x hx e => by have := j4 x hx; omega), (i5.turns T8 (fun x hx e => by have := j5 x hx; omega)).turns T9 (fun x hx e => by have := j5 x hx; omega), (i6.turns T8 (fun x hx e => by have := j6 x hx; omega)).turns T9 (fun x hx e => by have := j6 x hx; omega)⟩
              have hst1 : Hid ((((V7.setCell ⟨w.heap.size + 1, 0, none⟩ (.bool l)).setCell ⟨w.heap.size + 1, 1, none⟩ (.slice p1 k1 d1)).setCell ⟨w.heap.size + 1, 2, none⟩ (.slice p2 k2 d2)).setCell ⟨w.heap.size + 1, 3, none⟩ (.slice p3 k3 d3) = V8) := hV8.symm
              have hst3 : Hid ((((V8.setCell ⟨w.heap.size + 1 + 1, 0, none⟩ (.bool l)).setCell ⟨w.heap.size + 1 + 1, 1, none⟩ (.slice p4 k4 d4)).setCell ⟨w.heap.size + 1 + 1, 2, none⟩ (.slice p5 k5 d5)).setCell ⟨w.heap.size + 1 + 1, 3, none⟩ (.slice p6 k6 d6) = V9) := hV9.symm
              have HV7 : Hid (V7 = wr.drew) := hV7
              obtain ⟨⟨q0, q1, q2, q3⟩, -⟩ := A1
              obtain ⟨⟨q08, q18, q28, q38⟩, -⟩ := A18
              obtain ⟨⟨d0, d01, d02, d03⟩, -⟩ := D6
              obtain ⟨⟨e0, e1, e2, e3⟩, -⟩ := D7
              obtain ⟨⟨e08, e18, e28, e38⟩, -⟩ := D78
              obtain ⟨⟨r0, r1, r2, r3⟩, u0, u1, u2, u3⟩ := A2
              obtain ⟨⟨t0, t1, t2, t3⟩, v0, v1, v2, v3⟩ := A48
              have i7 : 4 < n := I5.out
              have i8 : ¬ (n : Int) ≤ 4 := by omega
              clear hV7 hV8 hV9 T8 T9 A28 A4 HB D hcm hms
              go_wp2
              refine region_worlds (by kernel_rfl) [6, 7, 8] (cutV (.agg #[.bool l, .slice p1 k1 d1, .slice p2 k2 d2, .slice p3 k3 d3]) (.slice (some ⟨b, o, none⟩) n c) (.agg #[.bool l, .slice p4 k4 d4, .slice p5 k5 d5, .slice p6 k6 d6]) w.heap.size b o mid) (worlds4 V7 V8 V8 V9) (by kernel_rfl) (by kernel_rfl) HV7.out.symm ?step 9 rfl ?done
              case step =>
                intro i o ho kk a2 hkk hmay hdf hsz hdep hsame
                match i, ho with
                | 0, ho =>
                  cases ho
                  have h5 := (hsame 5 rfl)
                  match kk, hkk, hmay with
                  | 0, _, hq => first | (cases hq; done) | (exact val_op rfl (wanted_free rfl) (by clear hdep hsame hsz hdf; (try simp only [cutV, worlds4]); go_simp) rfl rfl)
                  | 1, _, hq => first | (cases hq; done) | (exact val_op rfl (wanted_free rfl) (by clear hdep hsame hsz hdf; (try simp only [cutV, worlds4]); go_simp) rfl rfl)
                  | 2, _, hq => first | (cases hq; done) | (exact val_op rfl (wanted_free rfl) (by clear hdep hsame hsz hdf; (try simp only [cutV, worlds4]); go_simp) rfl rfl)
                  | 3, _, hq => first | (cases hq; done) | (exact val_op rfl (wanted_free rfl) (by clear hdep hsame hsz hdf; (try simp only [cutV, worlds4]); go_simp) rfl rfl)
                  | kk + 4, hkk, _ => simp at hkk
                | 1, ho =>
                  cases ho
                  have h1 := (hsame 1 rfl)
                  exact val_op rfl (wanted_free rfl) (by clear hdep hsame hsz hdf; (try simp only [cutV, worlds4]); go_simp) rfl rfl
                | 2, ho =>
                  cases ho
                  have h95 := (hdep 1 _ 95 rfl rfl rfl)
                  simp only [cutV] at h95
                  match kk, hkk, hmay with
                  | 0, _, hq => first | (cases hq; done) | (exact val_op rfl (wanted_free rfl) (by clear hdep hsame hsz hdf; (try simp only [cutV, worlds4]); go_simp) rfl rfl)
                  | 1, _, hq => first | (cases hq; done) | (exact val_op rfl (wanted_free rfl) (by clear hdep hsame hsz hdf; (try simp only [cutV, worlds4]); go_simp) rfl rfl)
                  | 2, _, hq => first | (cases hq; done) | (exact val_op rfl (wanted_free rfl) (by clear hdep hsame hsz hdf; (try simp only [cutV, worlds4]); go_simp) rfl rfl)
                  | 3, _, hq => first | (cases hq; done) | (exact val_op rfl (wanted_free rfl) (by clear hdep hsame hsz hdf; (try simp only [cutV, worlds4]); go_simp) rfl rfl)
                  | kk + 4, hkk, _ => simp at hkk
                | 3, ho =>
                  cases ho
                  have h96 := (hdep 2 _ 96 rfl rfl rfl)
                  simp only [cutV] at h96
                  exact val_op rfl (wanted_free rfl) (by clear hdep hsame hsz hdf; (try simp only [cutV, worlds4]); go_simp) rfl rfl
                | 4, ho =>
                  cases ho
                  have h97 := (hdep 3 _ 97 rfl rfl rfl)
                  simp only [cutV] at h97
                  match kk, hkk, hmay with
                  | 0, _, hq => first | (cases hq; done) | (exact val_op rfl (wanted_free rfl) (by clear hdep hsame hsz hdf; (try simp only [cutV, worlds4]); go_simp) rfl rfl)
                  | 1, _, hq => first | (cases hq; done) | (exact val_op rfl (wanted_free rfl) (by clear hdep hsame hsz hdf; (try simp only [cutV, worlds4]); go_simp) rfl rfl)
                  | 2, _, hq => first | (cases hq; done) | (exact val_op rfl (wanted_free rfl) (by clear hdep hsame hsz hdf; (try simp only [cutV, worlds4]); go_simp) rfl rfl)
                  | 3, _, hq => first | (cases hq; done) | (exact val_op rfl (wanted_free rfl) (by clear hdep hsame hsz hdf; (try simp only [cutV, worlds4]); go_simp) rfl rfl)
                  | kk + 4, hkk, _ => simp at hkk
                | 5, ho =>
                  cases ho
                  have h6 := (hsame 6 rfl)
                  match kk, hkk, hmay with
                  | 0, _, hq => first | (cases hq; done) | (exact val_op rfl (wanted_free rfl) (by clear hdep hsame hsz hdf; (try simp only [cutV, worlds4]); go_simp) rfl rfl)
                  | 1, _, hq => first | (cases hq; done) | (exact val_op rfl (wanted_free rfl) (by clear hdep hsame hsz hdf; (try simp only [cutV, worlds4]); go_simp) rfl rfl)
                  | 2, _, hq => first | (cases hq; done) | (exact val_op rfl (wanted_free rfl) (by clear hdep hsame hsz hdf; (try simp only [cutV, worlds4]); go_simp) rfl rfl)
                  | 3, _, hq => first | (cases hq; done) | (exact val_op rfl (wanted_free rfl) (by clear hdep hsame hsz hdf; (try simp only [cutV, worlds4]); go_simp) rfl rfl)
                  | kk + 4, hkk, _ => simp at hkk
                | 6, ho =>
                  cases ho
                  have h2 := (hsame 2 rfl)
                  have h94 := (hdep 0 _ 94 rfl rfl rfl)
                  simp only [cutV] at h94
                  match kk, hkk, hmay with
                  | 0, _, _ => exact val_skip rfl (wanted_free rfl) rfl (by clear hdep hsame hsz hdf; simp only [worlds4]; go_simp; try exact hst1.out) rfl
                  | 1, _, hq => cases hq
                  | 2, _, hq => cases hq
                  | 3, _, hq => cases hq
                  | kk + 4, hkk, _ => simp at hkk
                | 7, ho =>
                  cases ho
                  have h98 := (hdep 4 _ 98 rfl rfl rfl)
                  simp only [cutV] at h98
                  match kk, hkk, hmay with
                  | 0, _, hq => cases hq
                  | 1, _, _ => exact val_op rfl (wanted_free rfl) (by clear hdep hsame hsz hdf; (try simp only [cutV, worlds4]); go_simp) rfl rfl
                  | 2, _, hq => cases hq
                  | 3, _, hq => cases hq
                  | kk + 4, hkk, _ => simp at hkk
                | 8, ho =>
                  cases ho
                  have h4 := (hsame 4 rfl)
                  have h99 := (hdep 5 _ 99 rfl rfl rfl)
                  simp only [cutV] at h99
                  match kk, hkk, hmay with
                  | 0, _, hq => cases hq
                  | 1, _, hq => cases hq
                  | 2, _, _ => exact val_skip rfl (wanted_free rfl) rfl (by clear hdep hsame hsz hdf; simp only [worlds4]; go_simp; try exact hst3.out) rfl
                  | 3, _, hq => cases hq
                  | kk + 4, hkk, _ => simp at hkk
                | kk + 9, ho => simp at ho
              case done =>
                simp [filledN, cutV, worlds4]
                obtain ⟨⟨x0, x1, x2, x3⟩, -⟩ := A29
                obtain ⟨⟨y0, y1, y2, y3⟩, -⟩ := A49
                obtain ⟨e1, e2, e3, e4, e5, e6⟩ := HE.out
                obtain ⟨i1, i2, i3, i4, i5, i6⟩ := HI.out
                rw [HK1.out] at e1 i1
                rw [HK2.out] at e2 i2
                rw [HK3.out] at e3 i3
                rw [HM1.out] at e4 i4
                rw [HM2.out] at e5 i5
                rw [HM3.out] at e6 i6
                have HX := HB9.out
                go_wp2
                refine bodyPost_ret (v := .tuple #[.agg #[.bool l, .slice p1 k1 d1, .slice p2 k2 d2, .slice p3 k3 d3], .string mid, .agg #[.bool l, .slice p4 k4 d4, .slice p5 k5 d5, .slice p6 k6 d6]]) (by simp [results, Try.results26, go_sem, x0, x1, x2, x3, y0, y1, y2, y3]) rfl ⟨k1, p1, d1, k2, p2, d2, k3, p3, d3, k4, p4, d4, k5, p5, d5, k6, p6, d6, rfl, e1, e2, e3, e4, e5, e6, i1, i2, i3, i4, i5, i6, HX⟩

end Go.Proofs.Ytmhnnfmggdohkaa

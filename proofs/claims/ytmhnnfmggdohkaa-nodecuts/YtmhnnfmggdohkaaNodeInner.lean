/-
  The program's own reader of an inner node.
-/
import Derived.Test.YtmhnnfmggdohkaaNodeLeaf
namespace Go.Proofs.Ytmhnnfmggdohkaa
open Go.RowKit Plain Anylast
set_option linter.unusedVariables false

set_option maxRecDepth 20000 in
set_option maxHeartbeats 4000000 in
/-- INNER, of the reader. -/
theorem rinner_any (r c : Nat) (s : ByteArray) (p e : Int) (w : World) (b : Box3 w r (.string s) (.int .i64 p) (.int .i64 e)) (hs : s.size ≤ maxLen) (hc : c ≤ 255) :
    Calls Try.prog 53 #[.pointer (some ⟨r, 0, none⟩), .int .i64 c] w fun x w' => ∃ a d a'' d'', x = .returned (.agg #[.bool false, .slice a c d, .slice none 0 0, .slice a'' (c + 1) d'']) ∧
      IsS w' a d (rdInn s p e c).ks ∧ IsI w' a'' d'' (rdInn s p e c).cs ∧ From w.heap.size a ∧ From w.heap.size a'' ∧ Box3 w' r (.string s) (.int .i64 (rdInn s p e c).p) (.int .i64 (rdInn s p e c).e) ∧ Turns (fun k => k = r) w w' := by
  have hrw : r < w.heap.size := b.lt
  obtain ⟨W0, hW0⟩ : ∃ W0, W0 = w.alloc (.cells #[.bool false, .slice none 0 0, .slice none 0 0, .slice none 0 0] 25) := ⟨_, rfl⟩
  have b00 : Box4 W0 w.heap.size (.bool false) (.slice none 0 0) (.slice none 0 0) (.slice none 0 0) := by rw [hW0]; exact box4_new _ _ _ _ _ _ rfl
  have hB00 : Below w.heap.size w W0 := by rw [hW0]; exact (Below.refl _ _).alloc (Nat.le_refl _) _
  have hz0 : W0.heap.size = w.heap.size + 1 := by rw [hW0]; simp
  obtain ⟨V1, b1, t1, hsz, c1⟩ := rnumber_any r s p e 2 W0 (b.below hB00) hs
  obtain ⟨x, hx⟩ : ∃ x, x = rnR s p e 2 := ⟨_, rfl⟩
  rw [← hx] at c1
  obtain ⟨W, hW⟩ : ∃ W, W = (V1.alloc (.cells #[.int .i64 x] 3)).alloc (.cells #[.bool false, .slice none 0 0, .slice none 0 0, .slice (some ⟨V1.heap.size, 0, none⟩) 1 1] 25) := ⟨_, rfl⟩
  have hBW : Below V1.heap.size V1 W := by rw [hW]; exact ((Below.refl _ _).alloc (Nat.le_refl _) _).alloc (by simp) _
  have bW : Box3 W r (.string s) (.int .i64 (rdInn s p e 0).p) (.int .i64 (rdInn s p e 0).e) := b1.below hBW
  have b0 : Box4 W w.heap.size (.bool false) (.slice none 0 0) (.slice none 0 0) (.slice none 0 0) := (b00.turns t1 (by omega)).below hBW
  have T0 : Turns (fun k => k = r ∨ w.heap.size ≤ k) w W := ((Turns.of_below hB00).trans (t1.mono fun k hk => .inl hk)).tr hBW
  have hrow : W.ownsRow V1.heap.size 3 1 (.slice (some ⟨V1.heap.size, 0, none⟩) 1 1) 1 ([x].map (Value.int .i64)) := by
    rw [hW]
    exact (World.ownsRow_lit (base := V1.heap.size) (e := 3) (size := 1) V1 #[.int .i64 x] 1 (Nat.le_refl _) (by unfold maxLen; omega) rfl).alloc _
  have N0 : NodeAt W (V1.heap.size + 1) V1.heap.size false (.slice none 0 0) (.slice none 0 0) (.slice (some ⟨V1.heap.size, 0, none⟩) 1 1) (rdInn s p e 0).ks [] (rdInn s p e 0).cs := by
    refine ⟨by rw [hW]; exact box4_new _ _ _ _ _ _ (by simp), World.ownsRow_nil _ _ _ _, World.ownsRow_nil _ _ _ _, ?_, apart_nil _ _, apart_nil _ _, apart_nil _ _, off_nil _ _, off_nil _ _, ?_, hBW.size⟩
    · simp only [rdInn]
      rw [← hx]
      exact hrow
    · intro g hg
      simp [Value.ownBlock] at hg
      omega
  have HS : Hid (s.size ≤ maxLen) := hs
  have hbw : w.heap.size < V1.heap.size := by omega
  clear b hs hBW b1 t1 b00 hB00 hsz hrow hz0 hx
  go_enter Try.func53, Try.ntmps53
  go_wp2_with (go_at_call 51; rw [← hW0]; refine c1.mono ?_; rintro y w1 ⟨rfl, hw1⟩; have hw1' := hw1.symm; subst hw1'; clear hw1)
  rw [← hW]
  clear hW c1
  generalize V1.heap.size = B at *
  go_loopw [11] (fun v wr => ∃ (j : Nat) (u1 u3 : Value), j ≤ c ∧ v = .int .i64 j ∧ NodeAt wr (B + 1) B false u1 (.slice none 0 0) u3 (rdInn s p e j).ks [] (rdInn s p e j).cs ∧ Box3 wr r (.string s) (.int .i64 (rdInn s p e j).p) (.int .i64 (rdInn s p e j).e) ∧ Box4 wr w.heap.size (.bool false) (.slice none 0 0) (.slice none 0 0) (.slice none 0 0) ∧ Turns (fun k => k = r ∨ w.heap.size ≤ k) w wr) (fun v _ => c - (intOf v).toNat)
  case atStart => exact ⟨0, .slice none 0 0, _, by omega, rfl, N0, bW, b0, T0⟩
  case round =>
    clear N0 bW b0 T0
    obtain ⟨j, u1, u3, hj, rfl, N, bR, b0, T⟩ := hrel
    obtain ⟨A, hA⟩ : ∃ A, A = rdInn s p e j := ⟨_, rfl⟩
    obtain ⟨l1, l2⟩ := rdInn_len s p e j
    rw [← hA] at N bR l1 l2
    have HA : Hid (A = rdInn s p e j) := hA
    have hl1 : A.ks.length ≤ 4096 := by omega
    have hl2 : A.cs.length ≤ 4096 := by omega
    have L1 : Hid (A.ks.length = j) := l1
    have L2 : Hid (A.cs.length = j + 1) := l2
    clear hA l1 l2
    by_cases hlt : j < c
    · have hlt' : (j : Int) < c := by omega
      obtain ⟨V0, hV0⟩ : ∃ V, V = wr.drew := ⟨_, rfl⟩
      replace N : NodeAt V0 (B + 1) B false u1 (.slice none 0 0) u3 A.ks [] A.cs := by rw [hV0]; exact N.drew
      replace bR : Box3 V0 r (.string s) (.int .i64 A.p) (.int .i64 A.e) := by rw [hV0]; exact bR
      replace b0 : Box4 V0 w.heap.size (.bool false) (.slice none 0 0) (.slice none 0 0) (.slice none 0 0) := by rw [hV0]; exact b0.drew
      replace T : Turns (fun k => k = r ∨ w.heap.size ≤ k) w V0 := by rw [hV0]; exact T.drew
      obtain ⟨V1, g, cap, V3, V4, hcall3, x0, x1, x2, hrun5, x3, hst, N4, bR4, T4⟩ := N.read1 bR (by omega) (by omega) HS.out hl1
      have b04 := b0.turns T4 (by rintro (h | h | h) <;> omega)
      have T04 : Turns (fun k => k = r ∨ w.heap.size ≤ k) w V4 := T.trans (T4.mono fun k hk => by rcases hk with h | h | h <;> omega)
      obtain ⟨V5, hV5⟩ : ∃ V, V = V4.drew := ⟨_, rfl⟩
      replace N4 : NodeAt V5 (B + 1) B false (.slice (some ⟨g, 0, none⟩) (A.ks.length + 1) cap) (.slice none 0 0) u3 (A.ks ++ [rdS s A.p A.e]) [] A.cs := by rw [hV5]; exact N4.drew
      replace bR4 : Box3 V5 r (.string s) (.int .i64 (rdP s A.p A.e)) (.int .i64 (rdE s A.p A.e)) := by rw [hV5]; exact bR4
      replace b04 : Box4 V5 w.heap.size (.bool false) (.slice none 0 0) (.slice none 0 0) (.slice none 0 0) := by rw [hV5]; exact b04.drew
      replace T04 : Turns (fun k => k = r ∨ w.heap.size ≤ k) w V5 := by rw [hV5]; exact T04.drew
      obtain ⟨U1, g', cap', U3, U4, hcall3', y0, y1, y2, hrun5', y3, hst', N8, bR8, T8⟩ := N4.read3 bR4 (by omega) (by omega) HS.out hl2
      have b08 := b04.turns T8 (by rintro (h | h | h) <;> omega)
      have T08 : Turns (fun k => k = r ∨ w.heap.size ≤ k) w U4 := T04.trans (T8.mono fun k hk => by rcases hk with h | h | h <;> omega)
      have hfin : Hid (NodeAt U4 (B + 1) B false (.slice (some ⟨g, 0, none⟩) (A.ks.length + 1) cap) (.slice none 0 0) (.slice (some ⟨g', 0, none⟩) (A.cs.length + 1) cap') (rdInn s p e (j + 1)).ks [] (rdInn s p e (j + 1)).cs ∧ Box3 U4 r (.string s) (.int .i64 (rdInn s p e (j + 1)).p) (.int .i64 (rdInn s p e (j + 1)).e)) := by
        simp only [rdInn]
        rw [← HA.out]
        exact ⟨N8, bR8⟩
      have hfin2 : Hid (Box4 U4 w.heap.size (.bool false) (.slice none 0 0) (.slice none 0 0) (.slice none 0 0) ∧ Turns (fun k => k = r ∨ w.heap.size ≤ k) w U4) := ⟨b08, T08⟩
      have hst4 : Hid (V3.setCell ⟨B + 1, 1, none⟩ (.slice (some ⟨g, 0, none⟩) (A.ks.length + 1) cap) = V4) := hst
      have HV0 : Hid (V0 = wr.drew) := hV0
      have HV5 : Hid (V5 = V4.drew) := hV5
      have HT' : Hid (U3.setCell ⟨B + 1, 3, none⟩ (.slice (some ⟨g', 0, none⟩) (A.cs.length + 1) cap') = U4) := hst'
      obtain ⟨⟨q0, q1, q2, q3⟩, -⟩ := id x0
      obtain ⟨⟨q01, q11, q21, q31⟩, -⟩ := id x1
      obtain ⟨⟨q02, q12, q22, q32⟩, -⟩ := id x2
      obtain ⟨⟨q03, q13, q23, q33⟩, f0, f1, f2, f3⟩ := id x3
      generalize rdS s A.p A.e = key at *
      generalize rnR s (rdP s A.p A.e) (rdE s A.p A.e) 2 = kid at *
      clear N bR b0 T N4 bR4 b04 T04 N8 bR8 T8 b08 T08 T4 hst hst' hV0 hV5 x0 x1 x2 x3
      go_wp2
      refine region_worlds (by kernel_rfl) [3, 4, 5, 7] (pushV (B + 1) 1 r V1.heap.size g A.ks.length cap u1 (.string key)) (worlds5 V0 V1 (V1.alloc (.cells #[.string key] 9)) V3 V4) (by kernel_rfl) (by kernel_rfl) HV0.out.symm ?step 8 rfl ?done
      case step =>
        intro i o ho kk a2 hkk hmay hdf hsz hdep hsame
        match i, ho with
        | 0, ho =>
          cases ho
          have h5 := (hsame 5 rfl)
          exact val_op rfl (wanted_free rfl) (by clear hdep hsame hsz hdf; (try simp only [pushV, worlds5]); go_simp) rfl rfl
        | 1, ho =>
          cases ho
          have h13 := (hdep 0 _ 13 rfl rfl rfl)
          simp only [pushV] at h13
          match kk, hkk, hmay with
          | 0, _, hq => first | (cases hq; done) | (exact val_op rfl (wanted_free rfl) (by clear hdep hsame hsz hdf; (try simp only [pushV, worlds5]); go_simp) rfl rfl)
          | 1, _, hq => first | (cases hq; done) | (exact val_op rfl (wanted_free rfl) (by clear hdep hsame hsz hdf; (try simp only [pushV, worlds5]); go_simp) rfl rfl)
          | 2, _, hq => first | (cases hq; done) | (exact val_op rfl (wanted_free rfl) (by clear hdep hsame hsz hdf; (try simp only [pushV, worlds5]); go_simp) rfl rfl)
          | 3, _, hq => first | (cases hq; done) | (exact val_op rfl (wanted_free rfl) (by clear hdep hsame hsz hdf; (try simp only [pushV, worlds5]); go_simp) rfl rfl)
          | 4, _, hq => first | (cases hq; done) | (exact val_op rfl (wanted_free rfl) (by clear hdep hsame hsz hdf; (try simp only [pushV, worlds5]); go_simp) rfl rfl)
          | kk + 5, hkk, _ => simp at hkk
        | 2, ho =>
          cases ho
          have h0 := (hsame 0 rfl)
          exact val_op rfl (wanted_free rfl) (by clear hdep hsame hsz hdf; (try simp only [pushV, worlds5]); go_simp) rfl rfl
        | 3, ho =>
          cases ho
          have h15 := (hdep 2 _ 15 rfl rfl rfl)
          simp only [pushV] at h15
          match kk, hkk, hmay with
          | 0, _, _ => exact val_call rfl (wanted_free rfl) (by clear hdep hsame hsz hdf; (try simp only [worlds5]); go_simp) (hcall3.mono fun e w hh => ⟨hh.1, hh.2⟩)
          | 1, _, hq => cases hq
          | 2, _, hq => cases hq
          | 3, _, hq => cases hq
          | 4, _, hq => cases hq
          | kk + 5, hkk, _ => simp at hkk
        | 4, ho =>
          cases ho
          have h16 := (hdep 3 _ 16 rfl rfl rfl)
          simp only [pushV] at h16
          match kk, hkk, hmay with
          | 0, _, hq => cases hq
          | 1, _, _ => exact val_op rfl (wanted_free rfl) (by clear hdep hsame hsz hdf; (try simp only [pushV, worlds5]); go_simp) rfl rfl
          | 2, _, hq => cases hq
          | 3, _, hq => cases hq
          | 4, _, hq => cases hq
          | kk + 5, hkk, _ => simp at hkk
        | 5, ho =>
          cases ho
          have h14 := eval_tmp (hdep 1 _ 14 rfl rfl rfl)
          have h17 := eval_tmp (hdep 4 _ 17 rfl rfl rfl)
          simp only [pushV] at h14 h17
          match kk, hkk, hmay with
          | 0, _, hq => cases hq
          | 1, _, hq => cases hq
          | 2, _, _ => exact val_append rfl (wanted_free rfl) rfl h14 h17 hrun5 rfl rfl
          | 3, _, hq => cases hq
          | 4, _, hq => cases hq
          | kk + 5, hkk, _ => simp at hkk
        | 6, ho =>
          cases ho
          have h5 := (hsame 5 rfl)
          exact val_op rfl (wanted_free rfl) (by clear hdep hsame hsz hdf; (try simp only [pushV, worlds5]); go_simp) rfl rfl
        | 7, ho =>
          cases ho
          have h19 := (hdep 6 _ 19 rfl rfl rfl)
          have h18 := (hdep 5 _ 18 rfl rfl rfl)
          simp only [pushV] at h19 h18
          match kk, hkk, hmay with
          | 0, _, hq => cases hq
          | 1, _, hq => cases hq
          | 2, _, hq => cases hq
          | 3, _, _ => exact val_skip rfl (wanted_free rfl) rfl (by clear hdep hsame hsz hdf; simp only [worlds5]; go_simp; try exact hst4.out) rfl
          | 4, _, hq => cases hq
          | kk + 5, hkk, _ => simp at hkk
        | kk + 8, ho => simp at ho
      case done =>
        simp [filledN, pushV, worlds5]
        clear q0 q1 q2 q3 q01 q11 q21 q31 q02 q12 q22 q32 q03 q13 q23 q33 f0 f1 f2 f3 hcall3 hrun5 hst4 HV0
        have hcall3 := hcall3'
        have hrun5 := hrun5'
        have hst4 := HT'
        obtain ⟨⟨q0, q1, q2, q3⟩, -⟩ := id y0
        obtain ⟨⟨q01, q11, q21, q31⟩, -⟩ := id y1
        obtain ⟨⟨q02, q12, q22, q32⟩, -⟩ := id y2
        obtain ⟨⟨q03, q13, q23, q33⟩, f0, f1, f2, f3⟩ := id y3
        clear hcall3' hrun5' HT' y0 y1 y2 y3
        go_wp2
        refine region_worlds (by kernel_rfl) [3, 4, 5, 7] (pushV (B + 1) 3 r U1.heap.size g' A.cs.length cap' u3 (.int .i64 kid)) (worlds5 V5 U1 (U1.alloc (.cells #[.int .i64 kid] 3)) U3 U4) (by kernel_rfl) (by kernel_rfl) HV5.out.symm ?step2 8 rfl ?done2
        case step2 =>
          intro i o ho kk a2 hkk hmay hdf hsz hdep hsame
          match i, ho with
          | 0, ho =>
            cases ho
            have h5 := (hsame 5 rfl)
            exact val_op rfl (wanted_free rfl) (by clear hdep hsame hsz hdf; (try simp only [pushV, worlds5]); go_simp) rfl rfl
          | 1, ho =>
            cases ho
            have h20 := (hdep 0 _ 20 rfl rfl rfl)
            simp only [pushV] at h20
            match kk, hkk, hmay with
            | 0, _, hq => first | (cases hq; done) | (exact val_op rfl (wanted_free rfl) (by clear hdep hsame hsz hdf; (try simp only [pushV, worlds5]); go_simp) rfl rfl)
            | 1, _, hq => first | (cases hq; done) | (exact val_op rfl (wanted_free rfl) (by clear hdep hsame hsz hdf; (try simp only [pushV, worlds5]); go_simp) rfl rfl)
            | 2, _, hq => first | (cases hq; done) | (exact val_op rfl (wanted_free rfl) (by clear hdep hsame hsz hdf; (try simp only [pushV, worlds5]); go_simp) rfl rfl)
            | 3, _, hq => first | (cases hq; done) | (exact val_op rfl (wanted_free rfl) (by clear hdep hsame hsz hdf; (try simp only [pushV, worlds5]); go_simp) rfl rfl)
            | 4, _, hq => first | (cases hq; done) | (exact val_op rfl (wanted_free rfl) (by clear hdep hsame hsz hdf; (try simp only [pushV, worlds5]); go_simp) rfl rfl)
            | kk + 5, hkk, _ => simp at hkk
          | 2, ho =>
            cases ho
            have h0 := (hsame 0 rfl)
            exact val_op rfl (wanted_free rfl) (by clear hdep hsame hsz hdf; (try simp only [pushV, worlds5]); go_simp) rfl rfl
          | 3, ho =>
            cases ho
            have h22 := (hdep 2 _ 22 rfl rfl rfl)
            simp only [pushV] at h22
            match kk, hkk, hmay with
            | 0, _, _ => exact val_call rfl (wanted_free rfl) (by clear hdep hsame hsz hdf; (try simp only [worlds5]); go_simp) (hcall3.mono fun e w hh => ⟨hh.1, hh.2⟩)
            | 1, _, hq => cases hq
            | 2, _, hq => cases hq
            | 3, _, hq => cases hq
            | 4, _, hq => cases hq
            | kk + 5, hkk, _ => simp at hkk
          | 4, ho =>
            cases ho
            have h23 := (hdep 3 _ 23 rfl rfl rfl)
            simp only [pushV] at h23
            match kk, hkk, hmay with
            | 0, _, hq => cases hq
            | 1, _, _ => exact val_op rfl (wanted_free rfl) (by clear hdep hsame hsz hdf; (try simp only [pushV, worlds5]); go_simp) rfl rfl
            | 2, _, hq => cases hq
            | 3, _, hq => cases hq
            | 4, _, hq => cases hq
            | kk + 5, hkk, _ => simp at hkk
          | 5, ho =>
            cases ho
            have h21 := eval_tmp (hdep 1 _ 21 rfl rfl rfl)
            have h24 := eval_tmp (hdep 4 _ 24 rfl rfl rfl)
            simp only [pushV] at h21 h24
            match kk, hkk, hmay with
            | 0, _, hq => cases hq
            | 1, _, hq => cases hq
            | 2, _, _ => exact val_append rfl (wanted_free rfl) rfl h21 h24 hrun5 rfl rfl
            | 3, _, hq => cases hq
            | 4, _, hq => cases hq
            | kk + 5, hkk, _ => simp at hkk
          | 6, ho =>
            cases ho
            have h5 := (hsame 5 rfl)
            exact val_op rfl (wanted_free rfl) (by clear hdep hsame hsz hdf; (try simp only [pushV, worlds5]); go_simp) rfl rfl
          | 7, ho =>
            cases ho
            have h26 := (hdep 6 _ 26 rfl rfl rfl)
            have h25 := (hdep 5 _ 25 rfl rfl rfl)
            simp only [pushV] at h26 h25
            match kk, hkk, hmay with
            | 0, _, hq => cases hq
            | 1, _, hq => cases hq
            | 2, _, hq => cases hq
            | 3, _, _ => exact val_skip rfl (wanted_free rfl) rfl (by clear hdep hsame hsz hdf; simp only [worlds5]; go_simp; try exact hst4.out) rfl
            | 4, _, hq => cases hq
            | kk + 5, hkk, _ => simp at hkk
          | kk + 8, ho => simp at ho
        case done2 =>
          simp [filledN, pushV, worlds5]
          clear q0 q1 q2 q3 q01 q11 q21 q31 q02 q12 q22 q32 q03 q13 q23 q33 f0 f1 f2 f3 hcall3 hrun5 hst4 HV5
          go_wp2
          go_roundw
          case rel => exact ⟨j + 1, _, _, by omega, by go_num, hfin.out.1, hfin.out.2, hfin2.out.1, hfin2.out.2⟩
          case measure => simp [intOf]; omega
    · obtain rfl : j = c := by omega
      have z1 := rdInn_size s p e j
      rw [← HA.out] at z1
      obtain ⟨a, d, a', d', a'', d'', rfl, e2, rfl, i1, i2, i3, -, -, -⟩ := N.rows (fun x hx => Nat.le_trans (z1 x hx) HS.out) (fun x hx => by cases hx)
      have NH : Hid (NodeAt wr (B + 1) B false (.slice a A.ks.length d) (.slice none 0 0) (.slice a'' A.cs.length d'') A.ks [] A.cs) := N
      have BH : Hid (Box3 wr r (.string s) (.int .i64 A.p) (.int .i64 A.e)) := bR
      have TH : Hid (Turns (fun k => k = r ∨ w.heap.size ≤ k) w wr) := T
      have Z1 : Hid (∀ x ∈ A.ks, x.size ≤ maxLen) := fun x hx => Nat.le_trans (z1 x hx) HS.out
      obtain ⟨⟨q0, q1, q2, q3⟩, -⟩ := N.box
      obtain ⟨⟨r0, r1, r2, r3⟩, g0, g1, g2, g3⟩ := id b0
      clear N bR T z1 i1 i2 i3 e2
      go_wp2
      have N4 : NodeAt ((((wr.setCell ⟨w.heap.size, 0, none⟩ (.bool false)).setCell ⟨w.heap.size, 1, none⟩ (.slice a A.ks.length d)).setCell ⟨w.heap.size, 2, none⟩ (.slice none 0 0)).setCell ⟨w.heap.size, 3, none⟩ (.slice a'' A.cs.length d'')) (B + 1) B false (.slice a A.ks.length d) (.slice none 0 0) (.slice a'' A.cs.length d'') A.ks [] A.cs :=
        (((NH.out.other (by omega) (by omega) 0 _).other (by omega) (by omega) 1 _).other (by omega) (by omega) 2 _).other (by omega) (by omega) 3 _
      have T4 : Turns (fun k => k = w.heap.size) wr ((((wr.setCell ⟨w.heap.size, 0, none⟩ (.bool false)).setCell ⟨w.heap.size, 1, none⟩ (.slice a A.ks.length d)).setCell ⟨w.heap.size, 2, none⟩ (.slice none 0 0)).setCell ⟨w.heap.size, 3, none⟩ (.slice a'' A.cs.length d'')) := turns_put4 wr w.heap.size _ _ _ _
      obtain ⟨b, k, b', k', b'', k'', e1, e2, e3, i1, i2, i3, j1, j2, j3⟩ := N4.rows Z1.out (fun x hx => by cases hx)
      cases e1
      cases e3
      have l1 := L1.out
      have l2 := L2.out
      refine bodyPost_ret (v := .agg #[.bool false, .slice a j d, .slice none 0 0, .slice a'' (j + 1) d'']) (by simp [results, Try.results53, go_sem, r0, r1, r2, r3, l1, l2]) rfl ⟨a, d, a'', d'', rfl, by rw [← HA.out]; exact i1, by rw [← HA.out]; exact i3, j1.mono (by omega), j3.mono (by omega), by rw [← HA.out]; exact BH.out.turns T4 (by omega), ?_⟩
      exact (TH.out.trans (T4.mono fun k hk => .inr (by omega))).mono' fun k hk hh => by rcases hh with h | h <;> omega

end Go.Proofs.Ytmhnnfmggdohkaa

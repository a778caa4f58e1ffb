/-
  The program's own reader of a leaf and of an inner node.
-/
import Derived.Test.YtmhnnfmggdohkaaNodeReader
import Derived.Test.YtmhnnfmggdohkaaNodeFew
namespace Go.Proofs.Ytmhnnfmggdohkaa
open Go.RowKit Plain Anylast
set_option linter.unusedVariables false

/-- A key read and put at the end. -/
theorem NodeAt.read1 {w : World} {h B r : Nat} {l : Bool} {u1 u2 u3 : Value} {xs ys : List ByteArray} {zs : List Int} {s : ByteArray} {p e : Int} (n : NodeAt w h B l u1 u2 u3 xs ys zs) (b : Box3 w r (.string s) (.int .i64 p) (.int .i64 e)) (hr : r < B) (hne : r ≠ h) (hs : s.size ≤ maxLen) (hl : xs.length ≤ 4096) :
    ∃ V1 g cap V3 V4, Calls Try.prog 63 #[.pointer (some ⟨r, 0, none⟩)] w (fun c w' => c = .returned (.string (rdS s p e)) ∧ w' = V1) ∧ Box4 w h (.bool l) u1 u2 u3 ∧ Box4 V1 h (.bool l) u1 u2 u3 ∧ Box4 (V1.alloc (.cells #[.string (rdS s p e)] 9)) h (.bool l) u1 u2 u3 ∧
      (Builtin.append_ #[22, 22] 22 #[u1, .slice (some ⟨V1.heap.size, 0, none⟩) 1 1]).run Try.prog (V1.alloc (.cells #[.string (rdS s p e)] 9)) = .ok (.slice (some ⟨g, 0, none⟩) (xs.length + 1) cap) V3 ∧ Box4 V3 h (.bool l) u1 u2 u3 ∧
      V3.setCell ⟨h, 1, none⟩ (.slice (some ⟨g, 0, none⟩) (xs.length + 1) cap) = V4 ∧ NodeAt V4 h B l (.slice (some ⟨g, 0, none⟩) (xs.length + 1) cap) u2 u3 (xs ++ [rdS s p e]) ys zs ∧ Box3 V4 r (.string s) (.int .i64 (rdP s p e)) (.int .i64 (rdE s p e)) ∧ Turns (fun k => k = r ∨ Own h B k) w V4 := by
  obtain ⟨V1, b1, t1, _, c1⟩ := rtext_any r s p e w b hs
  have n1 : NodeAt V1 h B l u1 u2 u3 xs ys zs := n.turns t1 (fun e => hne e.symm) (fun k e => by omega)
  obtain ⟨g, cap, V3, hrun, b3, n4, t4⟩ := n1.push1 (rdS s p e) hl
  refine ⟨V1, g, cap, V3, _, c1, n.box, n1.box, (n1.alloc _).box, hrun, b3, rfl, n4, b1.turns t4 ?_, (t1.mono fun k e => .inl e).trans (t4.mono fun k e => .inr e)⟩
  rintro (e | e)
  · exact hne e
  · omega

/-- A value. -/
theorem NodeAt.read2 {w : World} {h B r : Nat} {l : Bool} {u1 u2 u3 : Value} {xs ys : List ByteArray} {zs : List Int} {s : ByteArray} {p e : Int} (n : NodeAt w h B l u1 u2 u3 xs ys zs) (b : Box3 w r (.string s) (.int .i64 p) (.int .i64 e)) (hr : r < B) (hne : r ≠ h) (hs : s.size ≤ maxLen) (hl : ys.length ≤ 4096) :
    ∃ V1 g cap V3 V4, Calls Try.prog 63 #[.pointer (some ⟨r, 0, none⟩)] w (fun c w' => c = .returned (.string (rdS s p e)) ∧ w' = V1) ∧ Box4 w h (.bool l) u1 u2 u3 ∧ Box4 V1 h (.bool l) u1 u2 u3 ∧ Box4 (V1.alloc (.cells #[.string (rdS s p e)] 9)) h (.bool l) u1 u2 u3 ∧
      (Builtin.append_ #[22, 22] 22 #[u2, .slice (some ⟨V1.heap.size, 0, none⟩) 1 1]).run Try.prog (V1.alloc (.cells #[.string (rdS s p e)] 9)) = .ok (.slice (some ⟨g, 0, none⟩) (ys.length + 1) cap) V3 ∧ Box4 V3 h (.bool l) u1 u2 u3 ∧
      V3.setCell ⟨h, 2, none⟩ (.slice (some ⟨g, 0, none⟩) (ys.length + 1) cap) = V4 ∧ NodeAt V4 h B l u1 (.slice (some ⟨g, 0, none⟩) (ys.length + 1) cap) u3 xs (ys ++ [rdS s p e]) zs ∧ Box3 V4 r (.string s) (.int .i64 (rdP s p e)) (.int .i64 (rdE s p e)) ∧ Turns (fun k => k = r ∨ Own h B k) w V4 := by
  obtain ⟨V1, b1, t1, _, c1⟩ := rtext_any r s p e w b hs
  have n1 : NodeAt V1 h B l u1 u2 u3 xs ys zs := n.turns t1 (fun e => hne e.symm) (fun k e => by omega)
  obtain ⟨g, cap, V3, hrun, b3, n4, t4⟩ := n1.push2 (rdS s p e) hl
  refine ⟨V1, g, cap, V3, _, c1, n.box, n1.box, (n1.alloc _).box, hrun, b3, rfl, n4, b1.turns t4 ?_, (t1.mono fun k e => .inl e).trans (t4.mono fun k e => .inr e)⟩
  rintro (e | e)
  · exact hne e
  · omega

/-- A child. -/
theorem NodeAt.read3 {w : World} {h B r : Nat} {l : Bool} {u1 u2 u3 : Value} {xs ys : List ByteArray} {zs : List Int} {s : ByteArray} {p e : Int} (n : NodeAt w h B l u1 u2 u3 xs ys zs) (b : Box3 w r (.string s) (.int .i64 p) (.int .i64 e)) (hr : r < B) (hne : r ≠ h) (hs : s.size ≤ maxLen) (hl : zs.length ≤ 4096) :
    ∃ V1 g cap V3 V4, Calls Try.prog 51 #[.pointer (some ⟨r, 0, none⟩), .int .i64 2] w (fun c w' => c = .returned (.int .i64 (rnR s p e 2)) ∧ w' = V1) ∧ Box4 w h (.bool l) u1 u2 u3 ∧ Box4 V1 h (.bool l) u1 u2 u3 ∧ Box4 (V1.alloc (.cells #[.int .i64 (rnR s p e 2)] 3)) h (.bool l) u1 u2 u3 ∧
      (Builtin.append_ #[23, 23] 23 #[u3, .slice (some ⟨V1.heap.size, 0, none⟩) 1 1]).run Try.prog (V1.alloc (.cells #[.int .i64 (rnR s p e 2)] 3)) = .ok (.slice (some ⟨g, 0, none⟩) (zs.length + 1) cap) V3 ∧ Box4 V3 h (.bool l) u1 u2 u3 ∧
      V3.setCell ⟨h, 3, none⟩ (.slice (some ⟨g, 0, none⟩) (zs.length + 1) cap) = V4 ∧ NodeAt V4 h B l u1 u2 (.slice (some ⟨g, 0, none⟩) (zs.length + 1) cap) xs ys (zs ++ [rnR s p e 2]) ∧ Box3 V4 r (.string s) (.int .i64 (rnP s p e 2)) (.int .i64 (rnE s p e 2)) ∧ Turns (fun k => k = r ∨ Own h B k) w V4 := by
  obtain ⟨V1, b1, t1, _, c1⟩ := rnumber_any r s p e 2 w b hs
  have n1 : NodeAt V1 h B l u1 u2 u3 xs ys zs := n.turns t1 (fun e => hne e.symm) (fun k e => by omega)
  obtain ⟨g, cap, V3, hrun, b3, n4, t4⟩ := n1.push3 (rnR s p e 2) hl
  refine ⟨V1, g, cap, V3, _, c1, n.box, n1.box, (n1.alloc _).box, hrun, b3, rfl, n4, b1.turns t4 ?_, (t1.mono fun k e => .inl e).trans (t4.mono fun k e => .inr e)⟩
  rintro (e | e)
  · exact hne e
  · omega

theorem turns_put4 (w : World) (h : Nat) (u0 u1 u2 u3 : Value) : Turns (fun k => k = h) w ((((w.setCell ⟨h, 0, none⟩ u0).setCell ⟨h, 1, none⟩ u1).setCell ⟨h, 2, none⟩ u2).setCell ⟨h, 3, none⟩ u3) :=
  Turns.setCell (P := fun k => k = h) (Turns.setCell (P := fun k => k = h) (Turns.setCell (P := fun k => k = h) (Turns.setCell (P := fun k => k = h) (Turns.refl _ _) (p := ⟨h, 0, none⟩) rfl u0) (p := ⟨h, 1, none⟩) rfl u1) (p := ⟨h, 2, none⟩) rfl u2) (p := ⟨h, 3, none⟩) rfl u3

/-- Two boxes: what is answered, and the node. -/
theorem node_two (w : World) (t : TypeId) (l : Bool) (v3 : Value) :
    ∃ W, W = (w.alloc (.cells #[.bool false, .slice none 0 0, .slice none 0 0, .slice none 0 0] t)).alloc (.cells #[.bool l, .slice none 0 0, .slice none 0 0, v3] t) ∧
      Box4 W w.heap.size (.bool false) (.slice none 0 0) (.slice none 0 0) (.slice none 0 0) ∧ Box4 W (w.heap.size + 1) (.bool l) (.slice none 0 0) (.slice none 0 0) v3 ∧ Below w.heap.size w W ∧ W.heap.size = w.heap.size + 2 :=
  ⟨_, rfl, (box4_new w _ _ _ _ t rfl).alloc _, box4_new _ _ _ _ _ t (by simp), ((Below.refl _ _).alloc (Nat.le_refl _) _).alloc (by simp) _, by simp⟩

set_option maxRecDepth 20000 in
set_option maxHeartbeats 4000000 in
/-- LEAF, of the reader. -/
theorem rleaf_any (r c : Nat) (s : ByteArray) (p e : Int) (w : World) (b : Box3 w r (.string s) (.int .i64 p) (.int .i64 e)) (hs : s.size ≤ maxLen) (hc : c ≤ 255) :
    Calls Try.prog 52 #[.pointer (some ⟨r, 0, none⟩), .int .i64 c] w fun x w' => ∃ a d a' d', x = .returned (.agg #[.bool true, .slice a c d, .slice a' c d', .slice none 0 0]) ∧
      IsS w' a d (rdLeaf s p e c).ks ∧ IsS w' a' d' (rdLeaf s p e c).vs ∧ From w.heap.size a ∧ From w.heap.size a' ∧ Box3 w' r (.string s) (.int .i64 (rdLeaf s p e c).p) (.int .i64 (rdLeaf s p e c).e) ∧ Turns (fun k => k = r) w w' := by
  obtain ⟨W, hW, b0, bn, hB0, hsz⟩ := node_two w 25 true (.slice none 0 0)
  have hrw : r < w.heap.size := b.lt
  have N0 : NodeAt W (w.heap.size + 1) (w.heap.size + 2) true (.slice none 0 0) (.slice none 0 0) (.slice none 0 0) [] [] [] := nodeAt_new bn (by omega)
  have bW : Box3 W r (.string s) (.int .i64 p) (.int .i64 e) := b.below hB0
  have T0 : Turns (fun k => k = r ∨ w.heap.size ≤ k) w W := Turns.of_below hB0
  have HS : Hid (s.size ≤ maxLen) := hs
  clear b hs bn hB0 hsz
  go_enter Try.func52, Try.ntmps52
  go_wp2
  rw [← hW]
  clear hW
  go_loopw [8] (fun v wr => ∃ (j : Nat) (u1 u2 : Value), j ≤ c ∧ v = .int .i64 j ∧ NodeAt wr (w.heap.size + 1) (w.heap.size + 2) true u1 u2 (.slice none 0 0) (rdLeaf s p e j).ks (rdLeaf s p e j).vs [] ∧ Box3 wr r (.string s) (.int .i64 (rdLeaf s p e j).p) (.int .i64 (rdLeaf s p e j).e) ∧ Box4 wr w.heap.size (.bool false) (.slice none 0 0) (.slice none 0 0) (.slice none 0 0) ∧ Turns (fun k => k = r ∨ w.heap.size ≤ k) w wr) (fun v _ => c - (intOf v).toNat)
  case atStart => exact ⟨0, .slice none 0 0, .slice none 0 0, by omega, rfl, N0, bW, b0, T0⟩
  case round =>
    clear N0 bW b0 T0
    obtain ⟨j, u1, u2, hj, rfl, N, bR, b0, T⟩ := hrel
    obtain ⟨A, hA⟩ : ∃ A, A = rdLeaf s p e j := ⟨_, rfl⟩
    obtain ⟨l1, l2⟩ := rdLeaf_len s p e j
    rw [← hA] at N bR l1 l2
    have HA : Hid (A = rdLeaf s p e j) := hA
    have hl1 : A.ks.length ≤ 4096 := by omega
    have hl2 : A.vs.length ≤ 4096 := by omega
    have L1 : Hid (A.ks.length = j) := l1
    have L2 : Hid (A.vs.length = j) := l2
    clear hA l1 l2
    by_cases hlt : j < c
    · have hlt' : (j : Int) < c := by omega
      obtain ⟨V0, hV0⟩ : ∃ V, V = wr.drew := ⟨_, rfl⟩
      replace N : NodeAt V0 (w.heap.size + 1) (w.heap.size + 2) true u1 u2 (.slice none 0 0) A.ks A.vs [] := by rw [hV0]; exact N.drew
      replace bR : Box3 V0 r (.string s) (.int .i64 A.p) (.int .i64 A.e) := by rw [hV0]; exact bR
      replace b0 : Box4 V0 w.heap.size (.bool false) (.slice none 0 0) (.slice none 0 0) (.slice none 0 0) := by rw [hV0]; exact b0.drew
      replace T : Turns (fun k => k = r ∨ w.heap.size ≤ k) w V0 := by rw [hV0]; exact T.drew
      obtain ⟨V1, g, cap, V3, V4, hcall3, x0, x1, x2, hrun5, x3, hst, N4, bR4, T4⟩ := N.read1 bR (by omega) (by omega) HS.out hl1
      have b04 := b0.turns T4 (by rintro (h | h | h) <;> omega)
      have T04 : Turns (fun k => k = r ∨ w.heap.size ≤ k) w V4 := T.trans (T4.mono fun k hk => by rcases hk with h | h | h <;> omega)
      obtain ⟨V5, hV5⟩ : ∃ V, V = V4.drew := ⟨_, rfl⟩
      replace N4 : NodeAt V5 (w.heap.size + 1) (w.heap.size + 2) true (.slice (some ⟨g, 0, none⟩) (A.ks.length + 1) cap) u2 (.slice none 0 0) (A.ks ++ [rdS s A.p A.e]) A.vs [] := by rw [hV5]; exact N4.drew
      replace bR4 : Box3 V5 r (.string s) (.int .i64 (rdP s A.p A.e)) (.int .i64 (rdE s A.p A.e)) := by rw [hV5]; exact bR4
      replace b04 : Box4 V5 w.heap.size (.bool false) (.slice none 0 0) (.slice none 0 0) (.slice none 0 0) := by rw [hV5]; exact b04.drew
      replace T04 : Turns (fun k => k = r ∨ w.heap.size ≤ k) w V5 := by rw [hV5]; exact T04.drew
      obtain ⟨U1, g', cap', U3, U4, hcall3', y0, y1, y2, hrun5', y3, hst', N8, bR8, T8⟩ := N4.read2 bR4 (by omega) (by omega) HS.out hl2
      have b08 := b04.turns T8 (by rintro (h | h | h) <;> omega)
      have T08 : Turns (fun k => k = r ∨ w.heap.size ≤ k) w U4 := T04.trans (T8.mono fun k hk => by rcases hk with h | h | h <;> omega)
      have hfin : Hid (NodeAt U4 (w.heap.size + 1) (w.heap.size + 2) true (.slice (some ⟨g, 0, none⟩) (A.ks.length + 1) cap) (.slice (some ⟨g', 0, none⟩) (A.vs.length + 1) cap') (.slice none 0 0) (rdLeaf s p e (j + 1)).ks (rdLeaf s p e (j + 1)).vs [] ∧ Box3 U4 r (.string s) (.int .i64 (rdLeaf s p e (j + 1)).p) (.int .i64 (rdLeaf s p e (j + 1)).e)) := by
        simp only [rdLeaf]
        rw [← HA.out]
        exact ⟨N8, bR8⟩
      have hfin2 : Hid (Box4 U4 w.heap.size (.bool false) (.slice none 0 0) (.slice none 0 0) (.slice none 0 0) ∧ Turns (fun k => k = r ∨ w.heap.size ≤ k) w U4) := ⟨b08, T08⟩
      have hst4 : Hid (V3.setCell ⟨w.heap.size + 1, 1, none⟩ (.slice (some ⟨g, 0, none⟩) (A.ks.length + 1) cap) = V4) := hst
      have HV0 : Hid (V0 = wr.drew) := hV0
      have HV5 : Hid (V5 = V4.drew) := hV5
      have HT' : Hid (U3.setCell ⟨w.heap.size + 1, 2, none⟩ (.slice (some ⟨g', 0, none⟩) (A.vs.length + 1) cap') = U4) := hst'
      obtain ⟨⟨q0, q1, q2, q3⟩, -⟩ := id x0
      obtain ⟨⟨q01, q11, q21, q31⟩, -⟩ := id x1
      obtain ⟨⟨q02, q12, q22, q32⟩, -⟩ := id x2
      obtain ⟨⟨q03, q13, q23, q33⟩, f0, f1, f2, f3⟩ := id x3
      generalize rdS s A.p A.e = key at *
      generalize rdS s (rdP s A.p A.e) (rdE s A.p A.e) = val at *
      clear N bR b0 T N4 bR4 b04 T04 N8 bR8 T8 b08 T08 T4 hst hst' hV0 hV5 x0 x1 x2 x3
      go_wp2
      refine region_worlds (by kernel_rfl) [3, 4, 5, 7] (pushV (w.heap.size + 1) 1 r V1.heap.size g A.ks.length cap u1 (.string key)) (worlds5 V0 V1 (V1.alloc (.cells #[.string key] 9)) V3 V4) (by kernel_rfl) (by kernel_rfl) HV0.out.symm ?step 8 rfl ?done
      case step =>
        intro i o ho kk a2 hkk hmay hdf hsz hdep hsame
        match i, ho with
        | 0, ho =>
          cases ho
          have h5 := (hsame 5 rfl)
          exact val_op rfl (wanted_free rfl) (by clear hdep hsame hsz hdf; (try simp only [pushV, worlds5]); go_simp) rfl rfl
        | 1, ho =>
          cases ho
          have h10 := (hdep 0 _ 10 rfl rfl rfl)
          simp only [pushV] at h10
          match kk, hkk, hmay with
          | 0, _, hq => first | (cases hq; done) | (exact val_op rfl (wanted_free rfl) (by clear hdep hsame hsz hdf; (try simp only [pushV, worlds5]); go_simp) rfl rfl)
          | 1, _, hq => first | (cases hq; done) | (exact val_op rfl (wanted_free rfl) (by clear hdep hsame hsz hdf; (try simp only [pushV, worlds5]); go_simp) rfl rfl)
          | 2, _, hq => first | (cases hq; done) | (exact val_op rfl (wanted_free rfl) (by clear hdep hsame hsz hdf; (try simp only [pushV, worlds5]); go_simp) rfl rfl)
          | 3, _, hq => first | (cases hq; done) | (exact val_op rfl (wanted_free rfl) (by clear hdep hsame hsz hdf; (try simp only [pushV, worlds5]); go_simp) rfl rfl)
          | 4, _, hq => first | (cases hq; done) | (exact val_op rfl (wanted_free rfl) (by clear hdep hsame hsz hdf; (try simp only [pushV, worlds5]); go_simp) rfl rfl)
          | kk + 5, hkk, _ => simp at hkk
        | 2, ho =>
          cases ho
          have h0 := (hsame 0 rfl)
          exact val_op rfl (wanted_free rfl) (by clear hdep hsame hsz hdf; (try simp only [pushV, worlds5]); go_simp) rfl rfl
        | 3, ho =>
          cases ho
          have h12 := (hdep 2 _ 12 rfl rfl rfl)
          simp only [pushV] at h12
          match kk, hkk, hmay with
          | 0, _, _ => exact val_call rfl (wanted_free rfl) (by clear hdep hsame hsz hdf; (try simp only [worlds5]); go_simp) (hcall3.mono fun e w hh => ⟨hh.1, hh.2⟩)
          | 1, _, hq => cases hq
          | 2, _, hq => cases hq
          | 3, _, hq => cases hq
          | 4, _, hq => cases hq
          | kk + 5, hkk, _ => simp at hkk
        | 4, ho =>
          cases ho
          have h13 := (hdep 3 _ 13 rfl rfl rfl)
          simp only [pushV] at h13
          match kk, hkk, hmay with
          | 0, _, hq => cases hq
          | 1, _, _ => exact val_op rfl (wanted_free rfl) (by clear hdep hsame hsz hdf; (try simp only [pushV, worlds5]); go_simp) rfl rfl
          | 2, _, hq => cases hq
          | 3, _, hq => cases hq
          | 4, _, hq => cases hq
          | kk + 5, hkk, _ => simp at hkk
        | 5, ho =>
          cases ho
          have h11 := eval_tmp (hdep 1 _ 11 rfl rfl rfl)
          have h14 := eval_tmp (hdep 4 _ 14 rfl rfl rfl)
          simp only [pushV] at h11 h14
          match kk, hkk, hmay with
          | 0, _, hq => cases hq
          | 1, _, hq => cases hq
          | 2, _, _ => exact val_append rfl (wanted_free rfl) rfl h11 h14 hrun5 rfl rfl
          | 3, _, hq => cases hq
          | 4, _, hq => cases hq
          | kk + 5, hkk, _ => simp at hkk
        | 6, ho =>
          cases ho
          have h5 := (hsame 5 rfl)
          exact val_op rfl (wanted_free rfl) (by clear hdep hsame hsz hdf; (try simp only [pushV, worlds5]); go_simp) rfl rfl
        | 7, ho =>
          cases ho
          have h16 := (hdep 6 _ 16 rfl rfl rfl)
          have h15 := (hdep 5 _ 15 rfl rfl rfl)
          simp only [pushV] at h16 h15
          match kk, hkk, hmay with
          | 0, _, hq => cases hq
          | 1, _, hq => cases hq
          | 2, _, hq => cases hq
          | 3, _, _ => exact val_skip rfl (wanted_free rfl) rfl (by clear hdep hsame hsz hdf; simp only [worlds5]; go_simp; try exact hst4.out) rfl
          | 4, _, hq => cases hq
          | kk + 5, hkk, _ => simp at hkk
        | kk + 8, ho => simp at ho
      case done =>
        simp [filledN, pushV, worlds5]
        clear q0 q1 q2 q3 q01 q11 q21 q31 q02 q12 q22 q32 q03 q13 q23 q33 f0 f1 f2 f3 hcall3 hrun5 hst4 HV0
        have hcall3 := hcall3'
        have hrun5 := hrun5'
        have hst4 := HT'
        obtain ⟨⟨q0, q1, q2, q3⟩, -⟩ := id y0
        obtain ⟨⟨q01, q11, q21, q31⟩, -⟩ := id y1
        obtain ⟨⟨q02, q12, q22, q32⟩, -⟩ := id y2
        obtain ⟨⟨q03, q13, q23, q33⟩, f0, f1, f2, f3⟩ := id y3
        clear hcall3' hrun5' HT' y0 y1 y2 y3
        go_wp2
        refine region_worlds (by kernel_rfl) [3, 4, 5, 7] (pushV (w.heap.size + 1) 2 r U1.heap.size g' A.vs.length cap' u2 (.string val)) (worlds5 V5 U1 (U1.alloc (.cells #[.string val] 9)) U3 U4) (by kernel_rfl) (by kernel_rfl) HV5.out.symm ?step2 8 rfl ?done2
        case step2 =>
          intro i o ho kk a2 hkk hmay hdf hsz hdep hsame
          match i, ho with
          | 0, ho =>
            cases ho
            have h5 := (hsame 5 rfl)
            exact val_op rfl (wanted_free rfl) (by clear hdep hsame hsz hdf; (try simp only [pushV, worlds5]); go_simp) rfl rfl
          | 1, ho =>
            cases ho
            have h17 := (hdep 0 _ 17 rfl rfl rfl)
            simp only [pushV] at h17
            match kk, hkk, hmay with
            | 0, _, hq => first | (cases hq; done) | (exact val_op rfl (wanted_free rfl) (by clear hdep hsame hsz hdf; (try simp only [pushV, worlds5]); go_simp) rfl rfl)
            | 1, _, hq => first | (cases hq; done) | (exact val_op rfl (wanted_free rfl) (by clear hdep hsame hsz hdf; (try simp only [pushV, worlds5]); go_simp) rfl rfl)
            | 2, _, hq => first | (cases hq; done) | (exact val_op rfl (wanted_free rfl) (by clear hdep hsame hsz hdf; (try simp only [pushV, worlds5]); go_simp) rfl rfl)
            | 3, _, hq => first | (cases hq; done) | (exact val_op rfl (wanted_free rfl) (by clear hdep hsame hsz hdf; (try simp only [pushV, worlds5]); go_simp) rfl rfl)
            | 4, _, hq => first | (cases hq; done) | (exact val_op rfl (wanted_free rfl) (by clear hdep hsame hsz hdf; (try simp only [pushV, worlds5]); go_simp) rfl rfl)
            | kk + 5, hkk, _ => simp at hkk
          | 2, ho =>
            cases ho
            have h0 := (hsame 0 rfl)
            exact val_op rfl (wanted_free rfl) (by clear hdep hsame hsz hdf; (try simp only [pushV, worlds5]); go_simp) rfl rfl
          | 3, ho =>
            cases ho
            have h19 := (hdep 2 _ 19 rfl rfl rfl)
            simp only [pushV] at h19
            match kk, hkk, hmay with
            | 0, _, _ => exact val_call rfl (wanted_free rfl) (by clear hdep hsame hsz hdf; (try simp only [worlds5]); go_simp) (hcall3.mono fun e w hh => ⟨hh.1, hh.2⟩)
            | 1, _, hq => cases hq
            | 2, _, hq => cases hq
            | 3, _, hq => cases hq
            | 4, _, hq => cases hq
            | kk + 5, hkk, _ => simp at hkk
          | 4, ho =>
            cases ho
            have h20 := (hdep 3 _ 20 rfl rfl rfl)
            simp only [pushV] at h20
            match kk, hkk, hmay with
            | 0, _, hq => cases hq
            | 1, _, _ => exact val_op rfl (wanted_free rfl) (by clear hdep hsame hsz hdf; (try simp only [pushV, worlds5]); go_simp) rfl rfl
            | 2, _, hq => cases hq
            | 3, _, hq => cases hq
            | 4, _, hq => cases hq
            | kk + 5, hkk, _ => simp at hkk
          | 5, ho =>
            cases ho
            have h18 := eval_tmp (hdep 1 _ 18 rfl rfl rfl)
            have h21 := eval_tmp (hdep 4 _ 21 rfl rfl rfl)
            simp only [pushV] at h18 h21
            match kk, hkk, hmay with
            | 0, _, hq => cases hq
            | 1, _, hq => cases hq
            | 2, _, _ => exact val_append rfl (wanted_free rfl) rfl h18 h21 hrun5 rfl rfl
            | 3, _, hq => cases hq
            | 4, _, hq => cases hq
            | kk + 5, hkk, _ => simp at hkk
          | 6, ho =>
            cases ho
            have h5 := (hsame 5 rfl)
            exact val_op rfl (wanted_free rfl) (by clear hdep hsame hsz hdf; (try simp only [pushV, worlds5]); go_simp) rfl rfl
          | 7, ho =>
            cases ho
            have h23 := (hdep 6 _ 23 rfl rfl rfl)
            have h22 := (hdep 5 _ 22 rfl rfl rfl)
            simp only [pushV] at h23 h22
            match kk, hkk, hmay with
            | 0, _, hq => cases hq
            | 1, _, hq => cases hq
            | 2, _, hq => cases hq
            | 3, _, _ => exact val_skip rfl (wanted_free rfl) rfl (by clear hdep hsame hsz hdf; simp only [worlds5]; go_simp; try exact hst4.out) rfl
            | 4, _, hq => cases hq
            | kk + 5, hkk, _ => simp at hkk
          | kk + 8, ho => simp at ho
        case done2 =>
          simp [filledN, pushV, worlds5]
          clear q0 q1 q2 q3 q01 q11 q21 q31 q02 q12 q22 q32 q03 q13 q23 q33 f0 f1 f2 f3 hcall3 hrun5 hst4 HV5
          go_wp2
          go_roundw
          case rel => exact ⟨j + 1, _, _, by omega, by go_num, hfin.out.1, hfin.out.2, hfin2.out.1, hfin2.out.2⟩
          case measure => simp [intOf]; omega
    · obtain rfl : j = c := by omega
      obtain ⟨z1, z2⟩ := rdLeaf_size s p e j
      rw [← HA.out] at z1 z2
      obtain ⟨a, d, a', d', a'', d'', rfl, rfl, e3, i1, i2, i3, -, -, -⟩ := N.rows (fun x hx => Nat.le_trans (z1 x hx) HS.out) (fun x hx => Nat.le_trans (z2 x hx) HS.out)
      have NH : Hid (NodeAt wr (w.heap.size + 1) (w.heap.size + 2) true (.slice a A.ks.length d) (.slice a' A.vs.length d') (.slice none 0 0) A.ks A.vs []) := N
      have BH : Hid (Box3 wr r (.string s) (.int .i64 A.p) (.int .i64 A.e)) := bR
      have TH : Hid (Turns (fun k => k = r ∨ w.heap.size ≤ k) w wr) := T
      have Z1 : Hid (∀ x ∈ A.ks, x.size ≤ maxLen) := fun x hx => Nat.le_trans (z1 x hx) HS.out
      have Z2 : Hid (∀ x ∈ A.vs, x.size ≤ maxLen) := fun x hx => Nat.le_trans (z2 x hx) HS.out
      obtain ⟨⟨q0, q1, q2, q3⟩, -⟩ := N.box
      obtain ⟨⟨r0, r1, r2, r3⟩, g0, g1, g2, g3⟩ := id b0
      clear N bR T z1 z2 i1 i2 i3 e3
      go_wp2
      have N4 : NodeAt ((((wr.setCell ⟨w.heap.size, 0, none⟩ (.bool true)).setCell ⟨w.heap.size, 1, none⟩ (.slice a A.ks.length d)).setCell ⟨w.heap.size, 2, none⟩ (.slice a' A.vs.length d')).setCell ⟨w.heap.size, 3, none⟩ (.slice none 0 0)) (w.heap.size + 1) (w.heap.size + 2) true (.slice a A.ks.length d) (.slice a' A.vs.length d') (.slice none 0 0) A.ks A.vs [] :=
        (((NH.out.other (by omega) (by omega) 0 _).other (by omega) (by omega) 1 _).other (by omega) (by omega) 2 _).other (by omega) (by omega) 3 _
      have T4 : Turns (fun k => k = w.heap.size) wr ((((wr.setCell ⟨w.heap.size, 0, none⟩ (.bool true)).setCell ⟨w.heap.size, 1, none⟩ (.slice a A.ks.length d)).setCell ⟨w.heap.size, 2, none⟩ (.slice a' A.vs.length d')).setCell ⟨w.heap.size, 3, none⟩ (.slice none 0 0)) := turns_put4 wr w.heap.size _ _ _ _
      obtain ⟨b, k, b', k', b'', k'', e1, e2, e3, i1, i2, i3, j1, j2, j3⟩ := N4.rows Z1.out Z2.out
      cases e1
      cases e2
      have l1 := L1.out
      have l2 := L2.out
      refine bodyPost_ret (v := .agg #[.bool true, .slice a j d, .slice a' j d', .slice none 0 0]) (by simp [results, Try.results52, go_sem, r0, r1, r2, r3, l1, l2]) rfl ⟨a, d, a', d', rfl, by rw [← HA.out]; exact i1, by rw [← HA.out]; exact i2, j1.mono (by omega), j2.mono (by omega), by rw [← HA.out]; exact BH.out.turns T4 (by omega), ?_⟩
      exact (TH.out.trans (T4.mono fun k hk => .inr (by omega))).mono' fun k hk hh => by rcases hh with h | h <;> omega

end Go.Proofs.Ytmhnnfmggdohkaa

/-
  The program's own reading of a node, and Get.
-/
import Derived.Test.YtmhnnfmggdohkaaNodeInner
import Derived.Test.YtmhnnfmggdohkaaNodeStand
import Derived.Test.YtmhnnfmggdohkaaNodeOnce
namespace Go.Proofs.Ytmhnnfmggdohkaa
open Go.RowKit Plain Anylast
set_option linter.unusedVariables false

/-! What the reader reads is what is to be read -/

theorem rd_leafSt (s : ByteArray) (j : Nat) : match leafSt s j with
    | .inl e => (rdLeaf s 1 0 j).e = e ∧ e ≠ 0
    | .inr (p, ks, vs) => rdLeaf s 1 0 j = ⟨p, 0, ks, vs⟩ := by
  induction j with
  | zero => rfl
  | succ j ih =>
    rw [leafSt]
    cases h : leafSt s j with
    | inl e =>
      rw [h] at ih
      obtain ⟨h1, h2⟩ := ih
      simp only [rdLeaf, h1]
      refine ⟨?_, h2⟩
      unfold rdE
      rw [if_neg h2, if_neg h2]
    | inr x =>
      obtain ⟨p, ks, vs⟩ := x
      rw [h] at ih
      simp only at ih ⊢
      simp only [rdLeaf, ih]
      unfold rdE rdP rdS
      simp only [if_true]
      by_cases c1 : cutE s p = 0
      · simp only [c1, if_true]
        by_cases c2 : cutE s (cutT s p) = 0
        · simp only [c2, if_true]
        · rw [if_neg c2]
          exact ⟨rfl, c2⟩
      · rw [if_neg c1]
        simp only [if_neg c1]
        exact ⟨trivial, c1⟩

theorem rd_innSt (s : ByteArray) (j : Nat) : match innSt s j with
    | .inl e => (rdInn s 1 0 j).e = e ∧ e ≠ 0
    | .inr (p, ks, cs) => rdInn s 1 0 j = ⟨getT s p 2, getE s p 2, ks, cs ++ [getR s p 2]⟩ := by
  induction j with
  | zero => rfl
  | succ j ih =>
    rw [innSt]
    cases h : innSt s j with
    | inl e =>
      rw [h] at ih
      obtain ⟨h1, h2⟩ := ih
      simp only [rdInn, h1]
      refine ⟨?_, h2⟩
      unfold rnE rdE
      rw [if_neg h2, if_neg h2]
    | inr x =>
      obtain ⟨p, ks, cs⟩ := x
      rw [h] at ih
      simp only at ih ⊢
      simp only [rdInn, ih]
      by_cases c1 : getE s p 2 = 0
      · rw [if_pos c1]
        by_cases c2 : cutE s (getT s p 2) = 0
        · rw [if_pos c2]
          simp only [rdE, rdP, rdS, rnE, rnP, rnR, c1, c2, if_true]
        · rw [if_neg c2]
          simp only [rdE, rdP, rnE, c1, if_true, if_neg c2]
          exact ⟨trivial, c2⟩
      · rw [if_neg c1]
        simp only [rdE, rdP, rnE, if_neg c1]
        exact ⟨trivial, c1⟩

theorem rn_one {s : ByteArray} (h : getE s 0 1 = 0) : rnP s 0 0 1 = 1 ∧ rnE s 0 0 1 = 0 ∧ rnR s 0 0 1 = getR s 0 1 := by
  unfold rnP rnE rnR
  rw [if_pos rfl, if_pos rfl, if_pos rfl, h]
  have h' : getE s ((0 : Nat) : Int) ((1 : Nat) : Int) = 0 := h
  exact ⟨(get_num h').2.1, rfl, rfl⟩

theorem rn_bad {s : ByteArray} (h : ¬ getE s 0 1 = 0) : rnE s 0 0 1 = getE s 0 1 ∧ rnR s 0 0 1 = 0 := by
  unfold rnE rnR
  rw [if_pos rfl, if_pos rfl]
  exact ⟨rfl, by unfold getR; rw [if_neg h]⟩

theorem rn_count (s : ByteArray) : ∃ c : Nat, rnR s 0 0 1 = c ∧ c ≤ 255 := by
  by_cases h : getE s 0 1 = 0
  · rw [(rn_one h).2.2]
    have h' : getE s ((0 : Nat) : Int) ((1 : Nat) : Int) = 0 := h
    have a : getR s 0 1 = getV s 0 1 := (get_num h').1
    have b := getV_bd s 0 1
    have c : pw 1 = 256 := by decide
    exact ⟨(getR s 0 1).toNat, by omega, by omega⟩
  · rw [(rn_bad h).2]
    exact ⟨0, rfl, by omega⟩

/-- What the reader has at its end, of a leaf and of an inner node. -/
def endL (s : ByteArray) : RdL := rdLeaf s (rnP s 0 0 1) (rnE s 0 0 1) (rnR s 0 0 1).toNat
def endI (s : ByteArray) : RdI := rdInn s (rnP s 0 0 1) (rnE s 0 0 1) (rnR s 0 0 1).toNat

theorem leafR_end (s : ByteArray) : leafR s = if (endL s).e = 0 then (if (endL s).p = s.size ∧ rightN true (endL s).ks (endL s).vs [] true = true then .inr (true, (endL s).ks, (endL s).vs, []) else .inl 4) else .inl (endL s).e := by
  by_cases h : getE s 0 1 = 0
  · obtain ⟨e1, e2, e3⟩ := rn_one h
    have hE : endL s = rdLeaf s 1 0 (getR s 0 1).toNat := by unfold endL; rw [e1, e2, e3]
    have k := rd_leafSt s (getR s 0 1).toNat
    rw [← hE] at k
    unfold leafR
    rw [if_pos h]
    cases hl : leafSt s (getR s 0 1).toNat with
    | inl e =>
      rw [hl] at k
      obtain ⟨k1, k2⟩ := k
      rw [k1, if_neg k2]
    | inr x =>
      obtain ⟨p, ks, vs⟩ := x
      rw [hl] at k
      simp only at k
      rw [k]
      simp only [if_true]
  · obtain ⟨e1, e2⟩ := rn_bad h
    have hE : (endL s).e = getE s 0 1 := by unfold endL; rw [e2]; exact e1
    unfold leafR
    rw [if_neg h, hE, if_neg h]

theorem innR_end (s : ByteArray) : innR s = if (endI s).e = 0 then (if (endI s).p = s.size ∧ rightN false (endI s).ks [] (endI s).cs true = true then .inr (false, (endI s).ks, [], (endI s).cs) else .inl 4) else .inl (endI s).e := by
  by_cases h : getE s 0 1 = 0
  · obtain ⟨e1, e2, e3⟩ := rn_one h
    have hE : endI s = rdInn s 1 0 (getR s 0 1).toNat := by unfold endI; rw [e1, e2, e3]
    have k := rd_innSt s (getR s 0 1).toNat
    rw [← hE] at k
    unfold innR
    rw [if_pos h]
    cases hl : innSt s (getR s 0 1).toNat with
    | inl e =>
      rw [hl] at k
      obtain ⟨k1, k2⟩ := k
      rw [k1, if_neg k2]
    | inr x =>
      obtain ⟨p, ks, vs⟩ := x
      rw [hl] at k
      simp only at k
      rw [k]
  · obtain ⟨e1, e2⟩ := rn_bad h
    have hE : (endI s).e = getE s 0 1 := by
      unfold endI
      rw [e2]
      show rnE s _ (rnE s 0 0 1) 2 = _
      rw [e1]
      unfold rnE
      rw [if_neg h]
    unfold innR
    rw [if_neg h, hE, if_neg h]

set_option maxRecDepth 20000 in
set_option maxHeartbeats 1000000 in
/-- NODE, of the reader at its start: a leaf. -/
theorem rnodeL_any (r : Nat) (s : ByteArray) (w : World) (b : Box3 w r (.string s) (.int .i64 0) (.int .i64 0)) (hs : s.size ≤ maxLen) :
    Calls Try.prog 34 #[.pointer (some ⟨r, 0, none⟩), .int .i64 1] w fun x w' => ∃ n a d n' a' d' n'' a'' d'', x = .returned (.agg #[.bool true, .slice a n d, .slice a' n' d', .slice a'' n'' d'']) ∧ n = (endL s).ks.length ∧ n' = (endL s).vs.length ∧ n'' = ([] : List Int).length ∧
      IsS w' a d (endL s).ks ∧ IsS w' a' d' (endL s).vs ∧ IsI w' a'' d'' [] ∧ From w.heap.size a ∧ From w.heap.size a' ∧ From w.heap.size a'' ∧ Box3 w' r (.string s) (.int .i64 (endL s).p) (.int .i64 (endL s).e) ∧ Turns (fun k => k = r) w w' := by
  have hrw : r < w.heap.size := b.lt
  obtain ⟨W0, hW0⟩ : ∃ W0, W0 = w.alloc (.cells #[.bool false, .slice none 0 0, .slice none 0 0, .slice none 0 0] 25) := ⟨_, rfl⟩
  have b00 : Box4 W0 w.heap.size (.bool false) (.slice none 0 0) (.slice none 0 0) (.slice none 0 0) := by rw [hW0]; exact box4_new _ _ _ _ _ _ rfl
  have hB00 : Below w.heap.size w W0 := by rw [hW0]; exact (Below.refl _ _).alloc (Nat.le_refl _) _
  obtain ⟨V1, b1, t1, hsz, c1⟩ := rnumber_any r s 0 0 1 W0 (b.below hB00) hs
  obtain ⟨c, hc, hc2⟩ := rn_count s
  have hE : endL s = rdLeaf s (rnP s 0 0 1) (rnE s 0 0 1) c := by unfold endL; rw [hc]; rfl
  rw [hc] at c1
  have c2 := rleaf_any r c s (rnP s 0 0 1) (rnE s 0 0 1) V1 b1 hs hc2
  rw [← hE] at c2
  obtain ⟨l1, l2⟩ := rdLeaf_len s (rnP s 0 0 1) (rnE s 0 0 1) c
  rw [← hE] at l1 l2
  have b01 := b00.turns t1 (by omega)
  have hwV : w.heap.size < V1.heap.size := b01.lt
  have T1 : Turns (fun k => k = r ∨ w.heap.size ≤ k) w V1 := (Turns.of_below hB00).trans (t1.mono fun k hk => .inl hk)
  have L1 : Hid ((endL s).ks.length = c) := l1
  have L2 : Hid ((endL s).vs.length = c) := l2
  clear hE hc b b1 b00 hsz t1 l1 l2
  generalize endL s = R at *
  go_enter Try.func34, Try.ntmps34
  go_wp2_with (first
    | (go_at_call 51; rw [← hW0]; refine c1.mono ?_; rintro y w1 ⟨rfl, hw1⟩; have hw1' := hw1.symm; subst hw1'; clear hw1)
    | (go_at_call 52; refine c2.mono ?_; rintro y w2 ⟨a, d, a', d', rfl, i1, i2, j1, j2, b2, t2⟩; have I1 : Hid (IsS w2 a d R.ks) := i1; have I2 : Hid (IsS w2 a' d' R.vs) := i2; have B2 : Hid (Box3 w2 r (.string s) (.int .i64 R.p) (.int .i64 R.e)) := b2; have T2 : Hid (Turns (fun k => k = r) V1 w2) := t2; have J1 : Hid (From V1.heap.size a) := j1; have J2 : Hid (From V1.heap.size a') := j2; obtain ⟨⟨r0, r1, r2, r3⟩, g0, g1, g2, g3⟩ := b01.turns t2 (by omega); clear i1 i2 b2 t2 j1 j2))
  have T4 := turns_put4 w2 w.heap.size (.bool true) (.slice a c d) (.slice a' c d') (.slice none 0 0)
  refine bodyPost_ret (v := .agg #[.bool true, .slice a c d, .slice a' c d', .slice none 0 0]) (by simp [results, Try.results34, go_sem, r0, r1, r2, r3]) rfl ⟨c, a, d, c, a', d', 0, none, 0, rfl, L1.out.symm, L2.out.symm, rfl, I1.out.turns T4 (fun x hx e => by have := J1.out x hx; omega), I2.out.turns T4 (fun x hx e => by have := J2.out x hx; omega), isI_nil _, J1.out.mono (by omega), J2.out.mono (by omega), from_nil _, B2.out.turns T4 (by omega), ?_⟩
  exact ((T1.trans (T2.out.mono fun k hk => .inl hk)).trans (T4.mono fun k hk => .inr (by omega))).mono' fun k hk hh => by rcases hh with h | h <;> omega

set_option maxRecDepth 20000 in
set_option maxHeartbeats 1000000 in
/-- An inner node. -/
theorem rnodeI_any (r : Nat) (s : ByteArray) (w : World) (b : Box3 w r (.string s) (.int .i64 0) (.int .i64 0)) (hs : s.size ≤ maxLen) :
    Calls Try.prog 34 #[.pointer (some ⟨r, 0, none⟩), .int .i64 2] w fun x w' => ∃ n a d n' a' d' n'' a'' d'', x = .returned (.agg #[.bool false, .slice a n d, .slice a' n' d', .slice a'' n'' d'']) ∧ n = (endI s).ks.length ∧ n' = ([] : List ByteArray).length ∧ n'' = (endI s).cs.length ∧
      IsS w' a d (endI s).ks ∧ IsS w' a' d' [] ∧ IsI w' a'' d'' (endI s).cs ∧ From w.heap.size a ∧ From w.heap.size a' ∧ From w.heap.size a'' ∧ Box3 w' r (.string s) (.int .i64 (endI s).p) (.int .i64 (endI s).e) ∧ Turns (fun k => k = r) w w' := by
  have hrw : r < w.heap.size := b.lt
  obtain ⟨W0, hW0⟩ : ∃ W0, W0 = w.alloc (.cells #[.bool false, .slice none 0 0, .slice none 0 0, .slice none 0 0] 25) := ⟨_, rfl⟩
  have b00 : Box4 W0 w.heap.size (.bool false) (.slice none 0 0) (.slice none 0 0) (.slice none 0 0) := by rw [hW0]; exact box4_new _ _ _ _ _ _ rfl
  have hB00 : Below w.heap.size w W0 := by rw [hW0]; exact (Below.refl _ _).alloc (Nat.le_refl _) _
  obtain ⟨V1, b1, t1, hsz, c1⟩ := rnumber_any r s 0 0 1 W0 (b.below hB00) hs
  obtain ⟨c, hc, hc2⟩ := rn_count s
  have hE : endI s = rdInn s (rnP s 0 0 1) (rnE s 0 0 1) c := by unfold endI; rw [hc]; rfl
  rw [hc] at c1
  have c2 := rinner_any r c s (rnP s 0 0 1) (rnE s 0 0 1) V1 b1 hs hc2
  rw [← hE] at c2
  obtain ⟨l1, l2⟩ := rdInn_len s (rnP s 0 0 1) (rnE s 0 0 1) c
  rw [← hE] at l1 l2
  have b01 := b00.turns t1 (by omega)
  have hwV : w.heap.size < V1.heap.size := b01.lt
  have T1 : Turns (fun k => k = r ∨ w.heap.size ≤ k) w V1 := (Turns.of_below hB00).trans (t1.mono fun k hk => .inl hk)
  have L1 : Hid ((endI s).ks.length = c) := l1
  have L2 : Hid ((endI s).cs.length = c + 1) := l2
  clear hE hc b b1 b00 hsz t1 l1 l2
  generalize endI s = R at *
  go_enter Try.func34, Try.ntmps34
  go_wp2_with (first
    | (go_at_call 51; rw [← hW0]; refine c1.mono ?_; rintro y w1 ⟨rfl, hw1⟩; have hw1' := hw1.symm; subst hw1'; clear hw1)
    | (go_at_call 53; refine c2.mono ?_; rintro y w2 ⟨a, d, a'', d'', rfl, i1, i2, j1, j2, b2, t2⟩; have I1 : Hid (IsS w2 a d R.ks) := i1; have I2 : Hid (IsI w2 a'' d'' R.cs) := i2; have B2 : Hid (Box3 w2 r (.string s) (.int .i64 R.p) (.int .i64 R.e)) := b2; have T2 : Hid (Turns (fun k => k = r) V1 w2) := t2; have J1 : Hid (From V1.heap.size a) := j1; have J2 : Hid (From V1.heap.size a'') := j2; obtain ⟨⟨r0, r1, r2, r3⟩, g0, g1, g2, g3⟩ := b01.turns t2 (by omega); clear i1 i2 b2 t2 j1 j2))
  have T4 := turns_put4 w2 w.heap.size (.bool false) (.slice a c d) (.slice none 0 0) (.slice a'' (c + 1) d'')
  refine bodyPost_ret (v := .agg #[.bool false, .slice a c d, .slice none 0 0, .slice a'' (c + 1) d'']) (by simp [results, Try.results34, go_sem, r0, r1, r2, r3]) rfl ⟨c, a, d, 0, none, 0, c + 1, a'', d'', rfl, L1.out.symm, rfl, L2.out.symm, I1.out.turns T4 (fun x hx e => by have := J1.out x hx; omega), isS_nil _, I2.out.turns T4 (fun x hx e => by have := J2.out x hx; omega), J1.out.mono (by omega), from_nil _, J2.out.mono (by omega), B2.out.turns T4 (by omega), ?_⟩
  exact ((T1.trans (T2.out.mono fun k hk => .inl hk)).trans (T4.mono fun k hk => .inr (by omega))).mono' fun k hk hh => by rcases hh with h | h <;> omega

end Go.Proofs.Ytmhnnfmggdohkaa

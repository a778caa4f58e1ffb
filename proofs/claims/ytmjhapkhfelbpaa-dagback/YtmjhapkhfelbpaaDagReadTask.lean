/-
  Package dag: readTask.
-/
import Derived.Test.YtmjhapkhfelbpaaDagNext
namespace Go.Proofs.Ytmjhapkhfelbpaa
open Go.RowKit Plain Anylast
set_option linter.unusedVariables false

theorem NxAt.off {V : World} {hs hp he : Nat} {s : ByteArray} {p e : Int} (r : NxAt V hs hp he s p e) {k i : Nat} (h1 : hs ≠ k) (h2 : hp ≠ k) (h3 : he ≠ k) (u : Value) : NxAt (V.setCell ⟨k, i, none⟩ u) hs hp he s p e :=
  r.turns (P := fun x => x = k) ((Turns.refl (fun x => x = k) V).setCell (p := ⟨k, i, none⟩) rfl u) h1 h2 h3

theorem ownsRow_offB {w : World} {B : Nat} {u : Value} {n h : Nat} {xs : List Value} (ho : w.ownsRow B 3 1 u n xs) (hf : Off h u) (i : Nat) (v : Value) : (w.setCell ⟨h, i, none⟩ v).ownsRow B 3 1 u n xs := owns_off ho hf i v

/-- How a task's needs stand behind so many, in a world. -/
def NdGood (w : World) (hs hp he : Nat) (s : ByteArray) (P0 E0 : Int) (j : Nat) (W : World) : Prop :=
  ∃ u, TkAt W (w.heap.size + 1) (w.heap.size + 2) u (.int .i64 0) (.int .i64 0) (.int .i64 0) (ndSt s P0 E0 j).ns ∧ NxAt W hs hp he s (ndSt s P0 E0 j).p (ndSt s P0 E0 j).e ∧ Box4 W w.heap.size (.slice none 0 0) (.int .i64 0) (.int .i64 0) (.int .i64 0) ∧ Turns (fun k => TwoB hp he k ∨ w.heap.size ≤ k) w W

/-- One need read and put at the end: all worlds on the way. -/
def NdStep (w : World) (hs hp he : Nat) (s : ByteArray) (P0 E0 : Int) (j : Nat) (W W' : World) : Prop :=
  ∃ u g cap V1 V3, Calls Try.prog 47 #[.int .i64 1, .pointer (some ⟨he, 0, none⟩), .pointer (some ⟨hs, 0, none⟩), .pointer (some ⟨hp, 0, none⟩)] W.drew (fun x w' => x = .returned (.int .i64 (gnR s (ndSt s P0 E0 j).p (ndSt s P0 E0 j).e 1)) ∧ w' = V1) ∧
    Box4 W.drew (w.heap.size + 1) u (.int .i64 0) (.int .i64 0) (.int .i64 0) ∧ Box4 V1 (w.heap.size + 1) u (.int .i64 0) (.int .i64 0) (.int .i64 0) ∧ Box4 (V1.alloc (.cells #[.int .i64 (gnR s (ndSt s P0 E0 j).p (ndSt s P0 E0 j).e 1)] 3)) (w.heap.size + 1) u (.int .i64 0) (.int .i64 0) (.int .i64 0) ∧
    (Builtin.append_ #[29, 29] 29 #[u, .slice (some ⟨V1.heap.size, 0, none⟩) 1 1]).run Try.prog (V1.alloc (.cells #[.int .i64 (gnR s (ndSt s P0 E0 j).p (ndSt s P0 E0 j).e 1)] 3)) = .ok (.slice (some ⟨g, 0, none⟩) (j + 1) cap) V3 ∧ Box4 V3 (w.heap.size + 1) u (.int .i64 0) (.int .i64 0) (.int .i64 0) ∧
    V3.setCell ⟨w.heap.size + 1, 0, none⟩ (.slice (some ⟨g, 0, none⟩) (j + 1) cap) = W'

theorem nd_step {w : World} {hs hp he : Nat} {s : ByteArray} {P0 E0 : Int} {j : Nat} {W : World} (l1 : hs < w.heap.size) (l2 : hp < w.heap.size) (l3 : he < w.heap.size) (hz : s.size ≤ maxLen) (hj : j ≤ 4096) (h : NdGood w hs hp he s P0 E0 j W) : ∃ W', NdGood w hs hp he s P0 E0 (j + 1) W' ∧ NdStep w hs hp he s P0 E0 j W W' := by
  obtain ⟨u, N, R, b0, T⟩ := h
  have hlen : (ndSt s P0 E0 j).ns.length = j := ndSt_len _ _ _ _
  obtain ⟨V1, R1, t1, s1, hc⟩ := nextD_any hs hp he s _ _ 1 W.drew R.drew hz
  have N1 := N.drew.turns t1 (by rintro (h | h) <;> omega) (by rintro k (h | h) <;> omega)
  obtain ⟨g, cap, V3, hrun, x2, x3, N4, t4⟩ := N1.push (gnR s (ndSt s P0 E0 j).p (ndSt s P0 E0 j).e 1) (by omega)
  have R4 := R1.turns t4 (by rintro (h | h) <;> omega) (by rintro (h | h) <;> omega) (by rintro (h | h) <;> omega)
  have b04 := (b0.drew.turns t1 (by rintro (h | h) <;> omega)).turns t4 (by rintro (h | h) <;> omega)
  have T4 : Turns (fun k => TwoB hp he k ∨ w.heap.size ≤ k) w _ := (T.drew.trans (t1.mono fun k h => .inl h)).trans (t4.mono fun k h => .inr (by rcases h with h | h <;> omega))
  rw [hlen] at hrun N4 R4 b04 T4
  exact ⟨_, ⟨_, N4, R4, b04, T4⟩, u, g, cap, V1, V3, hc, N.drew.box, N1.box, x2, hrun, x3, rfl⟩

theorem nd_worlds {w : World} {hs hp he : Nat} {s : ByteArray} {P0 E0 : Int} {W0 : World} (l1 : hs < w.heap.size) (l2 : hp < w.heap.size) (l3 : he < w.heap.size) (hz : s.size ≤ maxLen) (h : NdGood w hs hp he s P0 E0 0 W0) : ∀ K, K ≤ 4096 → ∃ Wd : Nat → World, Wd 0 = W0 ∧ (∀ j, j ≤ K → NdGood w hs hp he s P0 E0 j (Wd j)) ∧ ∀ j, j < K → NdStep w hs hp he s P0 E0 j (Wd j) (Wd (j + 1))
  | 0, _ => ⟨fun _ => W0, rfl, fun j hj => by obtain rfl : j = 0 := by omega
                                              exact h, fun j hj => by omega⟩
  | K + 1, hK => by
    obtain ⟨Wd, a1, a2, a3⟩ := nd_worlds l1 l2 l3 hz h K (by omega)
    obtain ⟨W', g, st⟩ := nd_step l1 l2 l3 hz (by omega) (a2 K (Nat.le_refl _))
    refine ⟨fun i => if i = K + 1 then W' else Wd i, by show (if 0 = K + 1 then W' else Wd 0) = W0; rw [if_neg (by omega)]; exact a1, fun j hj => ?_, fun j hj => ?_⟩
    · by_cases e : j = K + 1
      · subst e; simp only [if_true]; exact g
      · simp only [if_neg e]; exact a2 j (by omega)
    · show NdStep w hs hp he s P0 E0 j (if j = K + 1 then W' else Wd j) (if j + 1 = K + 1 then W' else Wd (j + 1))
      by_cases e : j = K
      · subst e; rw [if_neg (by omega), if_pos rfl]; exact st
      · rw [if_neg (by omega), if_neg (by omega)]; exact a3 j (by omega)

set_option maxRecDepth 20000 in
set_option maxHeartbeats 4000000 in
/-- READ TASK. -/
theorem readTask_any (hs hp he : Nat) (s : ByteArray) (p e : Int) (w : World) (r : NxAt w hs hp he s p e) (hz : s.size ≤ maxLen) :
    ∃ w1 a c, IsI w1 a c (tkSt s p e).t.needs ∧ From w.heap.size a ∧ NxAt w1 hs hp he s (tkSt s p e).p (tkSt s p e).e ∧ Turns (TwoB hp he) w w1 ∧
      Calls Try.prog 49 #[.func (.func 47) #[] #[.pointer (some ⟨he, 0, none⟩), .pointer (some ⟨hs, 0, none⟩), .pointer (some ⟨hp, 0, none⟩)]] w fun x w' => x = .returned (.agg #[.slice a (tkSt s p e).t.needs.length c, .int .i64 (tkSt s p e).t.tries, .int .i64 (tkSt s p e).t.wait, .int .i64 (tkSt s p e).t.lease]) ∧ w' = w1 := by
  have l1 : hs < w.heap.size := cell_lt r.b
  have l2 : hp < w.heap.size := cell_lt r.p
  have l3 : he < w.heap.size := cell_lt r.e
  obtain ⟨W, hW⟩ : ∃ W, W = (w.alloc (.cells #[.slice none 0 0, .int .i64 0, .int .i64 0, .int .i64 0] 46)).alloc (.cells #[.slice none 0 0, .int .i64 0, .int .i64 0, .int .i64 0] 46) := ⟨_, rfl⟩
  have hB0 : Below w.heap.size w W := by rw [hW]; exact ((Below.refl _ _).alloc (Nat.le_refl _) _).alloc (by simp) _
  have b0 : Box4 W w.heap.size (.slice none 0 0) (.int .i64 0) (.int .i64 0) (.int .i64 0) := by rw [hW]; exact (box4_new _ _ _ _ _ _ rfl).alloc _
  have b1 : Box4 W (w.heap.size + 1) (.slice none 0 0) (.int .i64 0) (.int .i64 0) (.int .i64 0) := by rw [hW]; exact box4_new _ _ _ _ _ _ (by simp)
  have zW : W.heap.size = w.heap.size + 2 := by rw [hW]; simp
  have rW := r.turns (P := fun _ => False) (Turns.of_below hB0) id id id
  have T0 : Turns (fun k => TwoB hp he k ∨ w.heap.size ≤ k) w W := Turns.of_below hB0
  obtain ⟨w1, r1, t1, s1, c0⟩ := nextD_any hs hp he s p e 1 W rW hz
  have N1 : TkAt w1 (w.heap.size + 1) (w.heap.size + 2) (.slice none 0 0) (.int .i64 0) (.int .i64 0) (.int .i64 0) [] :=
    (⟨b1, World.ownsRow_nil _ _ _ _, off_nil _ _, by omega⟩ : TkAt W (w.heap.size + 1) (w.heap.size + 2) (.slice none 0 0) (.int .i64 0) (.int .i64 0) (.int .i64 0) []).turns t1 (by rintro (h | h) <;> omega) (by rintro k (h | h) <;> omega)
  have b01 := b0.turns t1 (by rintro (h | h) <;> omega)
  have T1 : Turns (fun k => TwoB hp he k ∨ w.heap.size ≤ k) w w1 := T0.trans (t1.mono fun k h => .inl h)
  obtain ⟨K, hK⟩ : ∃ K, K = ndK s p e := ⟨_, rfl⟩
  have hK2 := (ndK_le s p e).2
  have hK255 : K ≤ 255 := by rw [hK]; exact (ndK_le s p e).1
  rw [← hK] at hK2
  rw [hK2] at c0
  have HK : Hid (K = ndK s p e) := hK
  have HS : Hid (s.size ≤ maxLen) := hz
  obtain ⟨P0, hP0⟩ : ∃ P0, P0 = gnP s p e 1 := ⟨_, rfl⟩
  obtain ⟨E0, hE0⟩ : ∃ E0, E0 = gnE s p e 1 := ⟨_, rfl⟩
  rw [← hP0, ← hE0] at r1
  have HPE : Hid (ndF s p e = ndSt s P0 E0 K) := by show _ = _; unfold ndF; rw [hK, hP0, hE0]
  obtain ⟨TK, hTK⟩ : ∃ TK, TK = tkSt s p e := ⟨_, rfl⟩
  have HTK : Hid (TK = tkSt s p e) := hTK
  rw [← hTK]
  obtain ⟨Wd, w0, wG, wS⟩ := nd_worlds (W0 := w1) l1 l2 l3 hz ⟨.slice none 0 0, N1, r1, b01, T1⟩ K (by omega)
  have WG : Hid (∀ j, j < K → NdStep w hs hp he s P0 E0 j (Wd j) (Wd (j + 1))) := wS
  have W00 : Hid (Wd 0 = w1) := w0
  obtain ⟨u, N, R, b0, T⟩ := wG K (Nat.le_refl _)
  obtain ⟨wF, hwr⟩ : ∃ wF, wF = Wd K := ⟨_, rfl⟩
  rw [← hwr] at N R b0 T
  have HWR : Hid (wF = Wd K) := hwr
  obtain ⟨A, hA⟩ : ∃ A, A = ndSt s P0 E0 K := ⟨_, rfl⟩
  have hlen : A.ns.length = K := by rw [hA]; exact ndSt_len _ _ _ _
  rw [← hA] at N R
  have L1 : Hid (A.ns.length = K) := hlen
  have HFA : Hid (ndF s p e = A) := by show _ = _; rw [HPE.out, hA]
  clear hTK hK hK2 hP0 hE0 hz r rW T0 t1 s1 hB0 zW w0 wG wS hwr hA hlen N1 r1 b01 T1 b1
  obtain ⟨U1, R1, t1, s1, c1⟩ := nextD_any hs hp he s A.p A.e 1 wF R HS.out
  have N1 := N.turns t1 (by rintro (h | h) <;> omega) (by rintro k (h | h) <;> omega)
  have b1 := b0.turns t1 (by rintro (h | h) <;> omega)
  have TT1 : Turns (fun k => TwoB hp he k ∨ w.heap.size ≤ k) w U1 := T.trans (t1.mono fun k h => .inl h)
  obtain ⟨X1, hX1⟩ : ∃ X1, X1 = U1.setCell ⟨w.heap.size + 1, 1, none⟩ (.int .i64 (gnR s A.p A.e 1)) := ⟨_, rfl⟩
  have R1' : NxAt X1 hs hp he s (gnP s A.p A.e 1) (gnE s A.p A.e 1) := by rw [hX1]; exact R1.off (by omega) (by omega) (by omega) _
  have M1 : TkAt X1 (w.heap.size + 1) (w.heap.size + 2) u (.int .i64 (gnR s A.p A.e 1)) (.int .i64 0) (.int .i64 0) A.ns := by
    rw [hX1]; exact ⟨N1.box.put1 _, owns_off N1.row N1.off 1 _, N1.off, by simpa using N1.le⟩
  have d1 : Box4 X1 w.heap.size (.slice none 0 0) (.int .i64 0) (.int .i64 0) (.int .i64 0) := by rw [hX1]; exact b1.off (by omega)
  have TX1 : Turns (fun k => TwoB hp he k ∨ w.heap.size ≤ k) w X1 := by rw [hX1]; exact TT1.setCell (p := ⟨w.heap.size + 1, 1, none⟩) (.inr (Nat.le_succ _)) _
  obtain ⟨U2, R2, t2, s2, c2⟩ := nextD_any hs hp he s (gnP s A.p A.e 1) (gnE s A.p A.e 1) 3 X1 R1' HS.out
  have N2 := M1.turns t2 (by rintro (h | h) <;> omega) (by rintro k (h | h) <;> omega)
  have b2 := d1.turns t2 (by rintro (h | h) <;> omega)
  have TT2 : Turns (fun k => TwoB hp he k ∨ w.heap.size ≤ k) w U2 := TX1.trans (t2.mono fun k h => .inl h)
  obtain ⟨X2, hX2⟩ : ∃ X2, X2 = U2.setCell ⟨w.heap.size + 1, 2, none⟩ (.int .i64 (gnR s (gnP s A.p A.e 1) (gnE s A.p A.e 1) 3)) := ⟨_, rfl⟩
  have R2' : NxAt X2 hs hp he s (gnP s (gnP s A.p A.e 1) (gnE s A.p A.e 1) 3) (gnE s (gnP s A.p A.e 1) (gnE s A.p A.e 1) 3) := by rw [hX2]; exact R2.off (by omega) (by omega) (by omega) _
  have M2 : TkAt X2 (w.heap.size + 1) (w.heap.size + 2) u (.int .i64 (gnR s A.p A.e 1)) (.int .i64 (gnR s (gnP s A.p A.e 1) (gnE s A.p A.e 1) 3)) (.int .i64 0) A.ns := by
    rw [hX2]; exact ⟨N2.box.put2 _, owns_off N2.row N2.off 2 _, N2.off, by simpa using N2.le⟩
  have d2 : Box4 X2 w.heap.size (.slice none 0 0) (.int .i64 0) (.int .i64 0) (.int .i64 0) := by rw [hX2]; exact b2.off (by omega)
  have TX2 : Turns (fun k => TwoB hp he k ∨ w.heap.size ≤ k) w X2 := by rw [hX2]; exact TT2.setCell (p := ⟨w.heap.size + 1, 2, none⟩) (.inr (Nat.le_succ _)) _
  obtain ⟨U3, R3, t3, s3, c3⟩ := nextD_any hs hp he s (gnP s (gnP s A.p A.e 1) (gnE s A.p A.e 1) 3) (gnE s (gnP s A.p A.e 1) (gnE s A.p A.e 1) 3) 3 X2 R2' HS.out
  have N3 := M2.turns t3 (by rintro (h | h) <;> omega) (by rintro k (h | h) <;> omega)
  have b3 := d2.turns t3 (by rintro (h | h) <;> omega)
  have TT3 : Turns (fun k => TwoB hp he k ∨ w.heap.size ≤ k) w U3 := TX2.trans (t3.mono fun k h => .inl h)
  have HE : Hid (TK = ⟨gnP s (gnP s (gnP s A.p A.e 1) (gnE s A.p A.e 1) 3) (gnE s (gnP s A.p A.e 1) (gnE s A.p A.e 1) 3) 3, gnE s (gnP s (gnP s A.p A.e 1) (gnE s A.p A.e 1) 3) (gnE s (gnP s A.p A.e 1) (gnE s A.p A.e 1) 3) 3, ⟨A.ns, gnR s A.p A.e 1, gnR s (gnP s A.p A.e 1) (gnE s A.p A.e 1) 3, gnR s (gnP s (gnP s A.p A.e 1) (gnE s A.p A.e 1) 3) (gnE s (gnP s A.p A.e 1) (gnE s A.p A.e 1) 3) 3⟩⟩) := by
    show _ = _
    rw [HTK.out]
    unfold tkSt
    rw [HFA.out]
  generalize gnP s (gnP s (gnP s A.p A.e 1) (gnE s A.p A.e 1) 3) (gnE s (gnP s A.p A.e 1) (gnE s A.p A.e 1) 3) 3 = P3 at *
  generalize gnE s (gnP s (gnP s A.p A.e 1) (gnE s A.p A.e 1) 3) (gnE s (gnP s A.p A.e 1) (gnE s A.p A.e 1) 3) 3 = E3 at *
  generalize gnR s (gnP s (gnP s A.p A.e 1) (gnE s A.p A.e 1) 3) (gnE s (gnP s A.p A.e 1) (gnE s A.p A.e 1) 3) 3 = le at *
  generalize gnR s (gnP s A.p A.e 1) (gnE s A.p A.e 1) 3 = wt at *
  generalize gnR s A.p A.e 1 = tr at *
  obtain ⟨X3, hX3⟩ : ∃ X3, X3 = U3.setCell ⟨w.heap.size + 1, 3, none⟩ (.int .i64 le) := ⟨_, rfl⟩
  have R3' : NxAt X3 hs hp he s P3 E3 := by rw [hX3]; exact R3.off (by omega) (by omega) (by omega) _
  have M3 : TkAt X3 (w.heap.size + 1) (w.heap.size + 2) u (.int .i64 tr) (.int .i64 wt) (.int .i64 le) A.ns := by
    rw [hX3]; exact ⟨N3.box.put3 _, owns_off N3.row N3.off 3 _, N3.off, by simpa using N3.le⟩
  have d3 : Box4 X3 w.heap.size (.slice none 0 0) (.int .i64 0) (.int .i64 0) (.int .i64 0) := by rw [hX3]; exact b3.off (by omega)
  have TX3 : Turns (fun k => TwoB hp he k ∨ w.heap.size ≤ k) w X3 := by rw [hX3]; exact TT3.setCell (p := ⟨w.heap.size + 1, 3, none⟩) (.inr (Nat.le_succ _)) _
  obtain ⟨a, c, rfl, -, hI3, hFr⟩ := owns_I M3.row
  have hn1 : Hid (A.ns.length = K) := L1
  have MH : Hid (TkAt X3 (w.heap.size + 1) (w.heap.size + 2) (.slice a A.ns.length c) (.int .i64 tr) (.int .i64 wt) (.int .i64 le) A.ns ∧ NxAt X3 hs hp he s P3 E3 ∧ Turns (fun k => TwoB hp he k ∨ w.heap.size ≤ k) w X3 ∧ IsI X3 a c A.ns ∧ From (w.heap.size + 2) a) := ⟨M3, R3', TX3, hI3, hFr⟩
  have D3 := d3.puts (.slice a A.ns.length c) (.int .i64 tr) (.int .i64 wt) (.int .i64 le)
  obtain ⟨⟨m0, m1, m2, m3⟩, -⟩ := id M3.box
  obtain ⟨⟨z0, z1, z2, z3⟩, y0, y1, y2, y3⟩ := id d3
  obtain ⟨⟨k0, k1, k2, k3⟩, -⟩ := id D3
  obtain ⟨⟨-, -, -, v13⟩, -, -, -, g13⟩ := id N3.box
  obtain ⟨⟨-, -, v12, -⟩, -, -, g12, -⟩ := id N2.box
  obtain ⟨⟨-, v11, -, -⟩, -, g11, -, -⟩ := id N1.box
  have e1 : Hid (U1.setCell ⟨w.heap.size + 1, 1, none⟩ (.int .i64 tr) = X1) := hX1.symm
  have e2 : Hid (U2.setCell ⟨w.heap.size + 1, 2, none⟩ (.int .i64 wt) = X2) := hX2.symm
  have e3 : Hid (U3.setCell ⟨w.heap.size + 1, 3, none⟩ (.int .i64 le) = X3) := hX3.symm
  have tok1 : True := trivial
  have tok2 : True := trivial
  rw [hX1] at c2
  rw [hX2] at c3
  rw [hX3] at m0 m1 m2 m3 z0 z1 z2 z3 y0 y1 y2 y3
  rw [hX3] at k0 k1 k2 k3
  clear N N1 N2 N3 R R1 R2 R3 R1' R2' R3' M1 M2 M3 b0 b1 b2 b3 d1 d2 d3 D3 T TT1 TT2 TT3 TX1 TX2 TX3 t1 t2 t3 s1 s2 s3 hX1 hX2 hX3 hI3 hFr L1
  have T4 : Turns (fun k => k = w.heap.size) X3 ((((X3.setCell ⟨w.heap.size, 0, none⟩ (.slice a A.ns.length c)).setCell ⟨w.heap.size, 1, none⟩ (.int .i64 tr)).setCell ⟨w.heap.size, 2, none⟩ (.int .i64 wt)).setCell ⟨w.heap.size, 3, none⟩ (.int .i64 le)) :=
    ((((Turns.refl (fun k => k = w.heap.size) X3).setCell (p := ⟨w.heap.size, 0, none⟩) rfl _).setCell (p := ⟨w.heap.size, 1, none⟩) rfl _).setCell (p := ⟨w.heap.size, 2, none⟩) rfl _).setCell (p := ⟨w.heap.size, 3, none⟩) rfl _
  obtain ⟨M3', R3'', TX3', hI3', hFr'⟩ := MH.out
  rw [HE.out]
  refine ⟨_, a, c, hI3'.turns T4 (fun x hx e => by have := hFr' x hx; omega), hFr'.mono (by omega), R3''.turns T4 (by omega) (by omega) (by omega), (TX3'.trans (T4.mono fun k h => .inr (by omega))).mono' (fun k hk h => by rcases h with h | h; exact h; omega), ?_⟩
  clear T4 M3' R3'' TX3' hI3' hFr' MH HE
  go_enter Try.func49, Try.ntmps49
  have tok0 : True := trivial
  go_wp2_with (go_at_call 47; rw [← hW]; refine c0.mono ?_; rintro x w' ⟨rfl, rfl⟩)
  clear c0 hW
  go_loopw [6] (fun v wr => ∃ j : Nat, j ≤ K ∧ v = .int .i64 j ∧ Hid (wr = Wd j)) (fun v _ => K - (intOf v).toNat)
  case atStart => exact ⟨0, by omega, rfl, W00.out.symm⟩
  case round =>
    obtain ⟨j, hj, rfl, HJ⟩ := hrel
    by_cases hlt : j < K
    · have hlt' : (j : Int) < K := by omega
      obtain ⟨u', g, cap, V1, V3, hcall3, x0, x1, x2, hrun5, x3, hst⟩ := WG.out j hlt
      rw [← HJ.out] at hcall3 x0
      obtain ⟨V0, hV0⟩ : ∃ V, V = wr.drew := ⟨_, rfl⟩
      rw [← hV0] at hcall3 x0
      have HV0 : Hid (V0 = wr.drew) := hV0
      obtain ⟨V4, hV4⟩ : ∃ V4, V4 = Wd (j + 1) := ⟨_, rfl⟩
      rw [← hV4] at hst
      have HV4 : Hid (V4 = Wd (j + 1)) := hV4
      have hst4 : Hid (V3.setCell ⟨w.heap.size + 1, 0, none⟩ (.slice (some ⟨g, 0, none⟩) (j + 1) cap) = V4) := hst
      obtain ⟨⟨q0, q1, q2, q3⟩, -⟩ := id x0
      obtain ⟨⟨q01, q11, q21, q31⟩, -⟩ := id x1
      obtain ⟨⟨q02, q12, q22, q32⟩, -⟩ := id x2
      obtain ⟨⟨q03, q13, q23, q33⟩, f0, f1, f2, f3⟩ := id x3
      generalize gnR s (ndSt s P0 E0 j).p (ndSt s P0 E0 j).e 1 = key at *
      clear x0 x1 x2 x3 hst hV0 hV4 m0 m1 m2 m3 z0 z1 z2 z3 y0 y1 y2 y3 k0 k1 k2 k3 v11 v12 v13 g11 g12 g13 c1 c2 c3
      go_wp2
      refine region_worlds (by kernel_rfl) [3, 4, 5, 7] (pushD (w.heap.size + 1) 0 (.func (.func 47) #[] #[.pointer (some ⟨he, 0, none⟩), .pointer (some ⟨hs, 0, none⟩), .pointer (some ⟨hp, 0, none⟩)]) V1.heap.size g j cap u' (.int .i64 key)) (worldsD V0 V1 (V1.alloc (.cells #[.int .i64 key] 3)) V3 V4) (by kernel_rfl) (by kernel_rfl) HV0.out.symm ?step 8 rfl ?done
      case step =>
        intro i o ho kk a2 hkk hmay hdf hsz hdep hsame
        match i, ho with
        | 0, ho =>
          cases ho
          have h3 := (hsame 3 rfl)
          exact val_op rfl (wanted_free rfl) (by clear hdep hsame hsz hdf; (try simp only [pushD, worldsD]); go_simp) rfl rfl
        | 1, ho =>
          cases ho
          have h8 := (hdep 0 _ 8 rfl rfl rfl)
          simp only [pushD] at h8
          match kk, hkk, hmay with
          | 0, _, hq => first | (cases hq; done) | (exact val_op rfl (wanted_free rfl) (by clear hdep hsame hsz hdf; (try simp only [pushD, worldsD]); go_simp) rfl rfl)
          | 1, _, hq => first | (cases hq; done) | (exact val_op rfl (wanted_free rfl) (by clear hdep hsame hsz hdf; (try simp only [pushD, worldsD]); go_simp) rfl rfl)
          | 2, _, hq => first | (cases hq; done) | (exact val_op rfl (wanted_free rfl) (by clear hdep hsame hsz hdf; (try simp only [pushD, worldsD]); go_simp) rfl rfl)
          | 3, _, hq => first | (cases hq; done) | (exact val_op rfl (wanted_free rfl) (by clear hdep hsame hsz hdf; (try simp only [pushD, worldsD]); go_simp) rfl rfl)
          | 4, _, hq => first | (cases hq; done) | (exact val_op rfl (wanted_free rfl) (by clear hdep hsame hsz hdf; (try simp only [pushD, worldsD]); go_simp) rfl rfl)
          | kk + 5, hkk, _ => simp at hkk
        | 2, ho =>
          cases ho
          have h0 := (hsame 0 rfl)
          exact val_op rfl (wanted_free rfl) (by clear hdep hsame hsz hdf; (try simp only [pushD, worldsD]); go_simp) rfl rfl
        | 3, ho =>
          cases ho
          have h10 := (hdep 2 _ 10 rfl rfl rfl)
          simp only [pushD] at h10
          match kk, hkk, hmay with
          | 0, _, _ => exact val_call rfl (wanted_free rfl) (by clear hdep hsame hsz hdf; (try simp only [worldsD]); go_simp) (hcall3.mono fun e w hh => ⟨hh.1, hh.2⟩)
          | 1, _, hq => cases hq
          | 2, _, hq => cases hq
          | 3, _, hq => cases hq
          | 4, _, hq => cases hq
          | kk + 5, hkk, _ => simp at hkk
        | 4, ho =>
          cases ho
          have h11 := (hdep 3 _ 11 rfl rfl rfl)
          simp only [pushD] at h11
          match kk, hkk, hmay with
          | 0, _, hq => cases hq
          | 1, _, _ => exact val_op rfl (wanted_free rfl) (by clear hdep hsame hsz hdf; (try simp only [pushD, worldsD]); go_simp) rfl rfl
          | 2, _, hq => cases hq
          | 3, _, hq => cases hq
          | 4, _, hq => cases hq
          | kk + 5, hkk, _ => simp at hkk
        | 5, ho =>
          cases ho
          have h9 := eval_tmp (hdep 1 _ 9 rfl rfl rfl)
          have h12 := eval_tmp (hdep 4 _ 12 rfl rfl rfl)
          simp only [pushD] at h9 h12
          match kk, hkk, hmay with
          | 0, _, hq => cases hq
          | 1, _, hq => cases hq
          | 2, _, _ => exact val_append rfl (wanted_free rfl) rfl h9 h12 hrun5 rfl rfl
          | 3, _, hq => cases hq
          | 4, _, hq => cases hq
          | kk + 5, hkk, _ => simp at hkk
        | 6, ho =>
          cases ho
          have h3 := (hsame 3 rfl)
          exact val_op rfl (wanted_free rfl) (by clear hdep hsame hsz hdf; (try simp only [pushD, worldsD]); go_simp) rfl rfl
        | 7, ho =>
          cases ho
          have h14 := (hdep 6 _ 14 rfl rfl rfl)
          have h13 := (hdep 5 _ 13 rfl rfl rfl)
          simp only [pushD] at h14 h13
          match kk, hkk, hmay with
          | 0, _, hq => cases hq
          | 1, _, hq => cases hq
          | 2, _, hq => cases hq
          | 3, _, _ => exact val_skip rfl (wanted_free rfl) rfl (by clear hdep hsame hsz hdf; simp only [worldsD]; go_simp; try exact hst4.out) rfl
          | 4, _, hq => cases hq
          | kk + 5, hkk, _ => simp at hkk
        | kk + 8, ho => simp at ho
      case done =>
        simp [filledN, pushD, worldsD]
        clear q0 q1 q2 q3 q01 q11 q21 q31 q02 q12 q22 q32 q03 q13 q23 q33 f0 f1 f2 f3 hcall3 hrun5 hst4 HV0
        go_wp2
        go_roundw
        case rel => exact ⟨j + 1, by omega, by go_num, HV4⟩
        case measure => simp [intOf]; omega
    · obtain rfl : K = j := by omega
      have hx : ¬ (K : Int) < K := by omega
      obtain rfl : wr = wF := HJ.out.trans HWR.out.symm
      clear HJ HWR WG W00
      go_wp2_with (first
        | (go_at_call 47; have _t := tok1; refine c1.mono ?_; rintro x w' ⟨rfl, rfl⟩; clear tok1 _t)
        | (go_at_call 47; have _t := tok2; refine c2.mono ?_; rintro x w' ⟨rfl, rfl⟩; clear tok2 _t)
        | (go_at_call 47; refine c3.mono ?_; rintro x w' ⟨rfl, rfl⟩))
      rw [e3.out] at k0 k1 k2 k3 ⊢
      exact bodyPost_ret (v := .agg #[.slice a A.ns.length c, .int .i64 tr, .int .i64 wt, .int .i64 le]) (by simp [results, Try.results49, go_sem, k0, k1, k2, k3]) rfl ⟨rfl, rfl⟩

end Go.Proofs.Ytmjhapkhfelbpaa

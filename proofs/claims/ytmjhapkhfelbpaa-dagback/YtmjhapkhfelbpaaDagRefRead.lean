/-
  The document's reader of a dag: Read.
-/
import Derived.Test.YtmjhapkhfelbpaaDagRefNext
namespace Go.Proofs.Ytmjhapkhfelbpaa
open Go.RowKit Plain Anylast
set_option linter.unusedVariables false

theorem ndSt_stuckP {s : ByteArray} {p e : Int} {j : Nat} (h : ¬ (ndSt s p e j).e = 0) (d : Nat) : (ndSt s p e (j + d)).p = (ndSt s p e j).p := by
  induction d with
  | zero => rfl
  | succ d ih =>
    show gnP _ (ndSt s p e (j + d)).p (ndSt s p e (j + d)).e _ = _
    rw [ndSt_stuck h, ih]; exact if_neg h

theorem tkSt_stuckP {s : ByteArray} {p e : Int} (h : ¬ e = 0) : (tkSt s p e).p = p := by
  have a1 : gnP s p e 1 = p := if_neg h
  have a2 : gnE s p e 1 = e := if_neg h
  have b1 : (ndF s p e).p = p := by
    unfold ndF
    rw [a1, a2]
    have := ndSt_stuckP (s := s) (p := p) (e := e) (j := 0) h (ndK s p e)
    rw [Nat.zero_add] at this
    exact this
  have b2 : (ndF s p e).e = e := by
    unfold ndF
    rw [a1, a2]
    have := ndSt_stuck (s := s) (p := p) (e := e) (j := 0) h (ndK s p e)
    rw [Nat.zero_add] at this
    exact this
  have c1 : ∀ k, gnP s p e k = p := fun k => if_neg h
  have c2 : ∀ k, gnE s p e k = e := fun k => if_neg h
  show gnP s (gnP s (gnP s (ndF s p e).p (ndF s p e).e 1) (gnE s (ndF s p e).p (ndF s p e).e 1) 3) (gnE s (gnP s (ndF s p e).p (ndF s p e).e 1) (gnE s (ndF s p e).p (ndF s p e).e 1) 3) 3 = p
  rw [b1, b2]
  simp only [c1, c2]

theorem dgSt_stuckP {s : ByteArray} {p e : Int} {j : Nat} (h : ¬ (dgSt s p e j).e = 0) (d : Nat) : (dgSt s p e (j + d)).p = (dgSt s p e j).p := by
  induction d with
  | zero => rfl
  | succ d ih =>
    show (tkSt s (dgSt s p e (j + d)).p (dgSt s p e (j + d)).e).p = _
    rw [tkSt_stuckP (by rw [dgSt_stuck h]; exact h), ih]

theorem DgAt.turns2 {P : Nat → Prop} {V V' : World} {h B : Nat} {nm : ByteArray} {u : Value} {ts : List TaskV} (n : DgAt V h B nm u ts) (t : Turns P V V') (hp : ¬ P h) (hb : ∀ k, P k → k < B ∨ V.heap.size ≤ k) : DgAt V' h B nm u ts := by
  have hlt := n.row.lt
  exact n.turns (P := fun k => P k ∧ k < V.heap.size) (t.mono' fun k hk h => ⟨h, hk⟩) (fun h => hp h.1) (fun k hk => by have := hb k hk.1; omega)

/-- How a task's needs stand behind so many; r in its box, the task in a box at w's end. -/
def RnGood (w : World) (hr : Nat) (s : ByteArray) (P0 E0 : Int) (j : Nat) (W : World) (u : Value) : Prop :=
  TkAt W w.heap.size (w.heap.size + 1) u (.int .i64 0) (.int .i64 0) (.int .i64 0) (ndSt s P0 E0 j).ns ∧ BoxL W hr [.string s, .int .i64 (ndSt s P0 E0 j).p, .int .i64 (ndSt s P0 E0 j).e] ∧ Turns (fun k => k = hr ∨ w.heap.size ≤ k) w W

theorem rn_step {w : World} {hr : Nat} {s : ByteArray} {P0 E0 : Int} {j : Nat} {W : World} {u : Value} (l1 : hr < w.heap.size) (hz : s.size ≤ maxLen) (hj : j ≤ 4096) (h : RnGood w hr s P0 E0 j W u) :
    ∃ g cap V1 V3 key, Calls Try.prog 51 #[.pointer (some ⟨hr, 0, none⟩), .int .i64 1] W.drew (fun x w' => x = .returned (.int .i64 key) ∧ w' = V1) ∧
      Box4 W.drew w.heap.size u (.int .i64 0) (.int .i64 0) (.int .i64 0) ∧ Box4 V1 w.heap.size u (.int .i64 0) (.int .i64 0) (.int .i64 0) ∧ Box4 (V1.alloc (.cells #[.int .i64 key] 3)) w.heap.size u (.int .i64 0) (.int .i64 0) (.int .i64 0) ∧
      (Builtin.append_ #[29, 29] 29 #[u, .slice (some ⟨V1.heap.size, 0, none⟩) 1 1]).run Try.prog (V1.alloc (.cells #[.int .i64 key] 3)) = .ok (.slice (some ⟨g, 0, none⟩) (j + 1) cap) V3 ∧ Box4 V3 w.heap.size u (.int .i64 0) (.int .i64 0) (.int .i64 0) ∧
      RnGood w hr s P0 E0 (j + 1) (V3.setCell ⟨w.heap.size, 0, none⟩ (.slice (some ⟨g, 0, none⟩) (j + 1) cap)) (.slice (some ⟨g, 0, none⟩) (j + 1) cap) := by
  obtain ⟨N, R, T⟩ := h
  have hlen : (ndSt s P0 E0 j).ns.length = j := ndSt_len _ _ _ _
  obtain ⟨V1, R1, t1, s1, hc⟩ := refNext_any hr s _ _ 1 W.drew (boxL_turns R ((Turns.refl (fun _ => False) W).drew) id) hz
  have N1 := N.drew.turns t1 (by omega) (by omega)
  obtain ⟨g, cap, V3, hrun, x2, x3, N4, t4⟩ := N1.push (gnR s (ndSt s P0 E0 j).p (ndSt s P0 E0 j).e 1) (by omega)
  have R4 := boxL_turns R1 t4 (by rintro (h | h) <;> omega)
  have T4 : Turns (fun k => k = hr ∨ w.heap.size ≤ k) w _ := (T.drew.trans (t1.mono fun k h => .inl h)).trans (t4.mono fun k h => .inr (by rcases h with h | h <;> omega))
  rw [hlen] at hrun N4 R4 T4
  exact ⟨g, cap, V1, V3, _, hc, N.drew.box, N1.box, x2, hrun, x3, N4, R4, T4⟩

/-- How the graph stands behind so many tasks. -/
structure RrGood (V : World) (hr hd : Nat) (s nm : ByteArray) (P0 E0 : Int) (i : Nat) (W : World) (u : Value) (ts : List TaskV) : Prop where
  d : DgAt W hd (hd + 1) nm u ts
  r : BoxL W hr [.string s, .int .i64 (dgSt s P0 E0 i).p, .int .i64 (dgSt s P0 E0 i).e]
  o : BoxL W V.heap.size [.string ⟨#[]⟩, .slice none 0 0]
  t : Turns (fun k => k = hr) V W
  p : (dgSt s P0 E0 i).e = 0 → plainT ts = (dgSt s P0 E0 i).ts
  l : ts.length = i
  h1 : hr < V.heap.size
  h2 : hd = V.heap.size + 1
  h3 : hd < W.heap.size

/-- One task read with three numbers behind its needs, and put at the end. -/
theorem rr_push {V : World} {hr hd : Nat} {s nm : ByteArray} {P0 E0 : Int} {i : Nat} {W X : World} {u : Value} {ts : List TaskV} (g : RrGood V hr hd s nm P0 E0 i W u ts) (hi : i ≤ 4096) {tr wt le P3 E3 : Int} {ns : List Int} {a : Option Addr} {c : Nat}
    (hT : Turns (fun k => k = hr ∨ W.heap.size ≤ k) W X) (hR : BoxL X hr [.string s, .int .i64 P3, .int .i64 E3]) (hI : IsI X a c ns) (hF : From (W.heap.size + 1) a) (hp : P3 = (dgSt s P0 E0 (i + 1)).p) (he : E3 = (dgSt s P0 E0 (i + 1)).e) (he0 : (dgSt s P0 E0 i).e = 0)
    (ht : E3 = 0 → (⟨ns, tr, wt, le⟩ : TaskP) = (tkSt s (dgSt s P0 E0 i).p (dgSt s P0 E0 i).e).t) :
    ∃ g' cap V3 x, BoxL X hd [.string nm, u] ∧ BoxL (X.alloc (.cells #[.slice a ns.length c, .int .i64 tr, .int .i64 wt, .int .i64 le] 46)) hd [.string nm, u] ∧
      (Builtin.append_ #[22, 22] 22 #[u, .slice (some ⟨X.heap.size, 0, none⟩) 1 1]).run Try.prog (X.alloc (.cells #[.slice a ns.length c, .int .i64 tr, .int .i64 wt, .int .i64 le] 46)) = .ok (.slice (some ⟨g', 0, none⟩) (i + 1) cap) V3 ∧ BoxL V3 hd [.string nm, u] ∧
      RrGood V hr hd s nm P0 E0 (i + 1) (V3.setCell ⟨hd, 1, none⟩ (.slice (some ⟨g', 0, none⟩) (i + 1) cap)) (.slice (some ⟨g', 0, none⟩) (i + 1) cap) (ts ++ [x]) := by
  have h1 := g.h1
  have h2 := g.h2
  have h3 := g.h3
  have hle := g.d.le
  have hlo := g.o.lt (by simp)
  have D : DgAt X hd (hd + 1) nm u ts := g.d.turns2 hT (by rintro (h | h) <;> omega) (by rintro k (h | h); exact .inl (by omega); exact .inr h)
  have O : BoxL X V.heap.size [.string ⟨#[]⟩, .slice none 0 0] := boxL_turns g.o hT (by rintro (h | h) <;> omega)
  have T : Turns (fun k => k = hr) V X := (g.t.mono (fun k h => (.inl h : k = hr ∨ W.heap.size ≤ k))).trans hT |>.mono' fun k hk h => by have := g.t.size; omega
  obtain ⟨g', cap, V3, hrun, x3, D4, t4⟩ := D.push ⟨a, c, ns, tr, wt, le⟩ hI (fun _ y hy => by
      have hf := hF y hy
      refine ⟨by omega, fun e => ?_⟩
      have := (g.d.row.lt _ e).2
      omega) (by have := g.l; omega)
  rw [g.l] at hrun D4 t4
  have hzX := hT.size
  exact ⟨g', cap, V3, _, D.box, D.box.alloc _, hrun, x3, D4, boxL_turns (by rw [← hp, ← he]; exact hR) t4 (by rintro (h | h) <;> omega), boxL_turns O t4 (by rintro (h | h) <;> omega), (T.mono (fun k h => (.inl h : k = hr ∨ V.heap.size ≤ k))).trans (t4.mono fun k h => .inr (by rcases h with h | h <;> omega)) |>.mono' (fun k hk h => by omega), (fun e => by
    have e3 := ht (by rw [he]; exact e)
    show plainT (ts ++ [_]) = (dgSt s P0 E0 i).ts ++ [_]
    rw [← g.p he0, ← e3]; simp [plainT, TaskV.p]), by simp [g.l], h1, h2, by have := t4.size; omega⟩




set_option maxRecDepth 20000 in
set_option maxHeartbeats 4000000 in
/-- The document's READ. -/
theorem refRead_any (hr : Nat) (s : ByteArray) (V : World) (b : BoxL V hr [.string s, .int .i64 0, .int .i64 0]) (hz : s.size ≤ maxLen) :
    Calls Try.prog 36 #[.pointer (some ⟨hr, 0, none⟩)] V fun e w' => ∃ a c ts, e = .returned (.agg #[.string (cutS s 0), .slice a ts.length c]) ∧ BoxL w' hr [.string s, .int .i64 (dgF s).p, .int .i64 (dgF s).e] ∧ ((dgF s).e = 0 → plainT ts = (dgF s).ts) ∧ IsT w' a c ts ∧ From V.heap.size a ∧ NeedsFrom V.heap.size ts ∧ Turns (fun k => k = hr) V w' := by
  have h1 : hr < V.heap.size := b.lt (by simp)
  obtain ⟨W, hW⟩ : ∃ W, W = V.alloc (.cells #[.string ⟨#[]⟩, .slice none 0 0] 24) := ⟨_, rfl⟩
  have zW : W.heap.size = V.heap.size + 1 := by rw [hW]; simp
  have o0 : BoxL W V.heap.size [.string ⟨#[]⟩, .slice none 0 0] := by rw [hW]; exact boxL_new _ [.string ⟨#[]⟩, .slice none 0 0] _ rfl
  have b0 : BoxL W hr [.string s, .int .i64 0, .int .i64 0] := by rw [hW]; exact b.alloc _
  have T0 : Turns (fun k => k = hr) V W := by rw [hW]; exact (Turns.refl _ _).alloc _
  obtain ⟨w1, b1, t1, s1, c0⟩ := refTextR_any hr s 0 W b0 hz
  have o1 := boxL_turns o0 t1 (by omega)
  have T1 := T0.trans t1
  obtain ⟨nm, hnm⟩ : ∃ nm, nm = cutS s 0 := ⟨_, rfl⟩
  obtain ⟨p0, hp0⟩ : ∃ p0, p0 = cutT s 0 := ⟨_, rfl⟩
  obtain ⟨e0, he0⟩ : ∃ e0, e0 = cutE s 0 := ⟨_, rfl⟩
  rw [← hnm] at c0
  rw [← hp0, ← he0] at b1
  rw [← hnm]
  obtain ⟨hd, hhd⟩ : ∃ hd, hd = w1.heap.size := ⟨_, rfl⟩
  obtain ⟨W2, hW2⟩ : ∃ W2, W2 = w1.alloc (.cells #[.string nm, .slice none 0 0] 24) := ⟨_, rfl⟩
  have zW2 : W2.heap.size = hd + 1 := by rw [hW2, hhd]; simp
  have b2 : BoxL W2 hr [.string s, .int .i64 p0, .int .i64 e0] := by rw [hW2]; exact b1.alloc _
  have o2 : BoxL W2 V.heap.size [.string ⟨#[]⟩, .slice none 0 0] := by rw [hW2]; exact o1.alloc _
  have d2 : BoxL W2 hd [.string nm, .slice none 0 0] := by rw [hW2]; exact boxL_new _ [.string nm, .slice none 0 0] _ hhd
  have T2 : Turns (fun k => k = hr) V W2 := by rw [hW2]; exact T1.alloc _
  have h2 : hd = V.heap.size + 1 := by omega
  obtain ⟨w3, b3, t3, s3, c1⟩ := refNext_any hr s p0 e0 1 W2 b2 hz
  have o3 := boxL_turns o2 t3 (by omega)
  have D3 : DgAt w3 hd (hd + 1) nm (.slice none 0 0) [] :=
    (⟨d2, World.ownsRow_nil _ _ _ _, off_nil _ _, fun t ht => by simp at ht, fun t ht => by simp at ht, by omega, by omega⟩ : DgAt W2 hd (hd + 1) nm (.slice none 0 0) []).turns t3 (by omega) (by omega)
  obtain ⟨M, hM⟩ : ∃ M, M = dgM s := ⟨_, rfl⟩
  have hM2 := (dgM_le s).2
  have hM255 : M ≤ 255 := by rw [hM]; exact (dgM_le s).1
  rw [← hM, ← hp0, ← he0] at hM2
  rw [hM2] at c1
  obtain ⟨P0, hP0⟩ : ∃ P0, P0 = gnP s p0 e0 1 := ⟨_, rfl⟩
  obtain ⟨E0, hE0⟩ : ∃ E0, E0 = gnE s p0 e0 1 := ⟨_, rfl⟩
  rw [← hP0, ← hE0] at b3
  have HF : Hid (dgF s = dgSt s P0 E0 M) := by show _ = _; unfold dgF; rw [hM, hP0, hE0, hp0, he0]
  have G0 : Hid (RrGood V hr hd s nm P0 E0 0 w3 (.slice none 0 0) []) := ⟨D3, b3, o3, T2.trans t3, fun _ => rfl, rfl, h1, h2, by omega⟩
  have HS : Hid (s.size ≤ maxLen) := hz
  rw [hhd] at G0
  clear h2 hE0 hP0 hM2 hM D3 o3 t3 s3 b3 T2 d2 o2 b2 zW2 T1 o1 t1 s1 b1 T0 b0 o0 zW hnm hp0 he0 hz b hhd
  go_enter Try.func36, Try.ntmps36
  have tok0 : True := trivial
  go_wp2_with (first
    | (go_at_call 50; rw [← hW]; refine c0.mono ?_; rintro x wA ⟨rfl, rfl⟩)
    | (go_at_call 51; rw [← hW2]; refine c1.mono ?_; rintro x wB ⟨rfl, rfl⟩))
  clear c0 c1 hW hW2
  generalize wA.heap.size = hd at *
  go_loopw [5] (fun v wr => ∃ (i : Nat) (u : Value) (ts : List TaskV), i ≤ M ∧ v = .int .i64 i ∧ Hid (RrGood V hr hd s nm P0 E0 i wr u ts)) (fun v _ => M - (intOf v).toNat)
  case atStart => exact ⟨0, _, _, by omega, rfl, G0⟩
  case round =>
    obtain ⟨i, u, ts, hi, rfl, HJ⟩ := hrel
    clear G0
    generalize wr = wo at *
    obtain ⟨P0i, hP0i⟩ : ∃ x, x = (dgSt s P0 E0 i).p := ⟨_, rfl⟩
    obtain ⟨E0i, hE0i⟩ : ∃ x, x = (dgSt s P0 E0 i).e := ⟨_, rfl⟩
    have HP0i : Hid ((dgSt s P0 E0 i).p = P0i) := hP0i.symm
    have HE0i : Hid ((dgSt s P0 E0 i).e = E0i) := hE0i.symm
    have bR := HJ.out.r
    rw [← hP0i, ← hE0i] at bR
    clear hP0i hE0i
    have r2 := bR.1 2 _ rfl
    by_cases hlt : i < M
    · have hlt' : (i : Int) < M := by omega
      by_cases hE : E0i = 0
      · have heb : (E0i == 0) = true := by simp [hE]
        have HZ : Hid ((dgSt s P0 E0 i).e = 0) := by show _ = _; rw [HE0i.out]; exact hE
        clear hE
        obtain ⟨X0, hX0⟩ : ∃ X, X = wo.alloc (.cells #[.slice none 0 0, .int .i64 0, .int .i64 0, .int .i64 0] 46) := ⟨_, rfl⟩
        have zX0 : X0.heap.size = wo.heap.size + 1 := by rw [hX0]; simp
        have k0 : Box4 X0 wo.heap.size (.slice none 0 0) (.int .i64 0) (.int .i64 0) (.int .i64 0) := by rw [hX0]; exact box4_new _ _ _ _ _ _ rfl
        have bX0 : BoxL X0 hr [.string s, .int .i64 P0i, .int .i64 E0i] := by rw [hX0]; exact bR.alloc _
        have TX0 : Turns (fun k => k = hr ∨ wo.heap.size ≤ k) wo X0 := by rw [hX0]; exact (Turns.refl _ _).alloc _
        have hro := bR.lt (by simp)
        obtain ⟨w5, b5, t5, s5, cN⟩ := refNext_any hr s P0i E0i 1 X0 bX0 HS.out
        have N5 : TkAt w5 wo.heap.size (wo.heap.size + 1) (.slice none 0 0) (.int .i64 0) (.int .i64 0) (.int .i64 0) [] :=
          (⟨k0, World.ownsRow_nil _ _ _ _, off_nil _ _, by omega⟩ : TkAt X0 wo.heap.size (wo.heap.size + 1) (.slice none 0 0) (.int .i64 0) (.int .i64 0) (.int .i64 0) []).turns t5 (by omega) (by omega)
        have T5 : Turns (fun k => k = hr ∨ wo.heap.size ≤ k) wo w5 := TX0.trans (t5.mono fun k h => .inl h)
        obtain ⟨K, hK⟩ : ∃ K, K = ndK s P0i E0i := ⟨_, rfl⟩
        have hK2 := (ndK_le s P0i E0i).2
        have hK255 : K ≤ 255 := by rw [hK]; exact (ndK_le s P0i E0i).1
        rw [← hK] at hK2
        rw [hK2] at cN
        obtain ⟨P1, hP1⟩ : ∃ x, x = gnP s P0i E0i 1 := ⟨_, rfl⟩
        obtain ⟨E1, hE1⟩ : ∃ x, x = gnE s P0i E0i 1 := ⟨_, rfl⟩
        rw [← hP1, ← hE1] at b5
        have HNF : Hid (ndF s P0i E0i = ndSt s P1 E1 K) := by show _ = _; unfold ndF; rw [hK, hP1, hE1]
        have G5 : Hid (RnGood wo hr s P1 E1 0 w5 (.slice none 0 0)) := ⟨N5, b5, T5⟩
        clear hE1 hP1 hK2 hK T5 N5 s5 t5 b5 TX0 bX0 k0 zX0 bR
        go_wp2_with (go_at_call 51; rw [← hX0]; refine cN.mono ?_; rintro x wC ⟨rfl, rfl⟩)
        clear cN hX0 r2
        go_loopw [8] (fun v wr => ∃ (j : Nat) (u' : Value), j ≤ K ∧ v = .int .i64 j ∧ Hid (RnGood wo hr s P1 E1 j wr u')) (fun v _ => K - (intOf v).toNat)
        case atStart => exact ⟨0, _, by omega, rfl, G5⟩
        case round =>
          obtain ⟨j, u', hj, rfl, HJ2⟩ := hrel
          clear G5
          obtain ⟨Ej, hEj⟩ : ∃ x, x = (ndSt s P1 E1 j).e := ⟨_, rfl⟩
          have HEj : Hid ((ndSt s P1 E1 j).e = Ej) := hEj.symm
          have rj := HJ2.out.2.1.1 2 _ rfl
          rw [← hEj] at rj
          clear hEj
          by_cases hjt : j < K
          · have hjt' : (j : Int) < K := by omega
            by_cases hEj0 : Ej = 0
            · have hejb : (Ej == 0) = true := by simp [hEj0]
              clear hEj0
              obtain ⟨g, cap, V1, V3, key, hcall3, x0, x1, x2, hrun5, x3, hst⟩ := rn_step hro HS.out (by omega) HJ2.out
              obtain ⟨V0, hV0⟩ : ∃ V, V = wr.drew := ⟨_, rfl⟩
              rw [← hV0] at hcall3 x0
              have HV0 : Hid (V0 = wr.drew) := hV0
              obtain ⟨V4, hV4⟩ : ∃ V4, V4 = V3.setCell ⟨wo.heap.size, 0, none⟩ (.slice (some ⟨g, 0, none⟩) (j + 1) cap) := ⟨_, rfl⟩
              rw [← hV4] at hst
              have hst4 : Hid (V3.setCell ⟨wo.heap.size, 0, none⟩ (.slice (some ⟨g, 0, none⟩) (j + 1) cap) = V4) := hV4.symm
              have HN : Hid (RnGood wo hr s P1 E1 (j + 1) V4 (.slice (some ⟨g, 0, none⟩) (j + 1) cap)) := hst
              obtain ⟨⟨q0, q1, q2, q3⟩, -⟩ := id x0
              obtain ⟨⟨q01, q11, q21, q31⟩, -⟩ := id x1
              obtain ⟨⟨q02, q12, q22, q32⟩, -⟩ := id x2
              obtain ⟨⟨q03, q13, q23, q33⟩, f0, f1, f2, f3⟩ := id x3
              clear x0 x1 x2 x3 hst hV0 hV4
              go_wp2
              refine region_worlds (by kernel_rfl) [3, 4, 5, 7] (pushD wo.heap.size 0 (.pointer (some ⟨hr, 0, none⟩)) V1.heap.size g j cap u' (.int .i64 key)) (worldsD V0 V1 (V1.alloc (.cells #[.int .i64 key] 3)) V3 V4) (by kernel_rfl) (by kernel_rfl) HV0.out.symm ?step 8 rfl ?done
              case step =>
                intro i o ho kk a2 hkk hmay hdf hsz hdep hsame
                match i, ho with
                | 0, ho =>
                  cases ho
                  have h6 := (hsame 6 rfl)
                  exact val_op rfl (wanted_free rfl) (by clear hdep hsame hsz hdf; (try simp only [pushD, worldsD]); go_simp) rfl rfl
                | 1, ho =>
                  cases ho
                  have h41 := (hdep 0 _ 41 rfl rfl rfl)
                  simp only [pushD] at h41
                  match kk, hkk, hmay with
                  | 0, _, hq => first | (cases hq; done) | (exact val_op rfl (wanted_free rfl) (by clear hdep hsame hsz hdf; (try simp only [pushD, worldsD]); go_simp) rfl rfl)
                  | 1, _, hq => first | (cases hq; done) | (exact val_op rfl (wanted_free rfl) (by clear hdep hsame hsz hdf; (try simp only [pushD, worldsD]); go_simp) rfl rfl)
                  | 2, _, hq => first | (cases hq; done) | (exact val_op rfl (wanted_free rfl) (by clear hdep hsame hsz hdf; (try simp only [pushD, worldsD]); go_simp) rfl rfl)
                  | 3, _, hq => first | (cases hq; done) | (exact val_op rfl (wanted_free rfl) (by clear hdep hsame hsz hdf; (try simp only [pushD, worldsD]); go_simp) rfl rfl)
                  | 4, _, hq => first | (cases hq; done) | (exact val_op rfl (wanted_free rfl) (by clear hdep hsame hsz hdf; (try simp only [pushD, worldsD]); go_simp) rfl rfl)
                  | kk + 5, hkk, _ => simp at hkk
                | 2, ho =>
                  cases ho
                  have h0 := (hsame 0 rfl)
                  exact val_op rfl (wanted_free rfl) (by clear hdep hsame hsz hdf; (try simp only [pushD, worldsD]); go_simp) rfl rfl
                | 3, ho =>
                  cases ho
                  have h43 := (hdep 2 _ 43 rfl rfl rfl)
                  simp only [pushD] at h43
                  match kk, hkk, hmay with
                  | 0, _, _ => exact val_call rfl (wanted_free rfl) (by clear hdep hsame hsz hdf; (try simp only [worldsD]); go_simp) (hcall3.mono fun e w hh => ⟨hh.1, hh.2⟩)
                  | 1, _, hq => cases hq
                  | 2, _, hq => cases hq
                  | 3, _, hq => cases hq
                  | 4, _, hq => cases hq
                  | kk + 5, hkk, _ => simp at hkk
                | 4, ho =>
                  cases ho
                  have h44 := (hdep 3 _ 44 rfl rfl rfl)
                  simp only [pushD] at h44
                  match kk, hkk, hmay with
                  | 0, _, hq => cases hq
                  | 1, _, _ => exact val_op rfl (wanted_free rfl) (by clear hdep hsame hsz hdf; (try simp only [pushD, worldsD]); go_simp) rfl rfl
                  | 2, _, hq => cases hq
                  | 3, _, hq => cases hq
                  | 4, _, hq => cases hq
                  | kk + 5, hkk, _ => simp at hkk
                | 5, ho =>
                  cases ho
                  have h42 := eval_tmp (hdep 1 _ 42 rfl rfl rfl)
                  have h45 := eval_tmp (hdep 4 _ 45 rfl rfl rfl)
                  simp only [pushD] at h42 h45
                  match kk, hkk, hmay with
                  | 0, _, hq => cases hq
                  | 1, _, hq => cases hq
                  | 2, _, _ => exact val_append rfl (wanted_free rfl) rfl h42 h45 hrun5 rfl rfl
                  | 3, _, hq => cases hq
                  | 4, _, hq => cases hq
                  | kk + 5, hkk, _ => simp at hkk
                | 6, ho =>
                  cases ho
                  have h6 := (hsame 6 rfl)
                  exact val_op rfl (wanted_free rfl) (by clear hdep hsame hsz hdf; (try simp only [pushD, worldsD]); go_simp) rfl rfl
                | 7, ho =>
                  cases ho
                  have h47 := (hdep 6 _ 47 rfl rfl rfl)
                  have h46 := (hdep 5 _ 46 rfl rfl rfl)
                  simp only [pushD] at h47 h46
                  match kk, hkk, hmay with
                  | 0, _, hq => cases hq
                  | 1, _, hq => cases hq
                  | 2, _, hq => cases hq
                  | 3, _, _ => exact val_skip rfl (wanted_free rfl) rfl (by clear hdep hsame hsz hdf; simp only [worldsD]; go_simp; try exact hst4.out) rfl
                  | 4, _, hq => cases hq
                  | kk + 5, hkk, _ => simp at hkk
                | kk + 8, ho => simp at ho
              case done =>
                simp [filledN, pushD, worldsD]
                clear q0 q1 q2 q3 q01 q11 q21 q31 q02 q12 q22 q32 q03 q13 q23 q33 f0 f1 f2 f3 hcall3 hrun5 hst4 HV0 rj
                go_wp2
                go_roundw
                case rel => exact ⟨j + 1, _, by omega, by go_num, HN⟩
                case measure => simp [intOf]; omega
            · have hejb : (Ej == 0) = false := by simpa using hEj0
              have HXP : Hid ((ndSt s P1 E1 j).p = (ndF s P0i E0i).p) := by
                show _ = _
                rw [HNF.out, show K = j + (K - j) by omega, ndSt_stuckP (by rw [HEj.out]; exact hEj0)]
              have HXE : Hid ((ndSt s P1 E1 j).e = (ndF s P0i E0i).e) := by
                show _ = _
                rw [HNF.out, show K = j + (K - j) by omega, ndSt_stuck (by rw [HEj.out]; exact hEj0)]
              have HXN : Hid ((ndSt s P1 E1 j).e = 0 → (ndSt s P1 E1 j).ns = (ndF s P0i E0i).ns) := fun h => absurd (HEj.out.symm.trans h) hEj0
              clear hEj0
              have RN := HJ2.out
              have hp' : (ndSt s P1 E1 j).p = (ndF s P0i E0i).p := HXP.out
              have he' : (ndSt s P1 E1 j).e = (ndF s P0i E0i).e := HXE.out
              obtain ⟨A, hA⟩ : ∃ A, A = ndSt s P1 E1 j := ⟨_, rfl⟩
              have HXN2 : Hid (A.e = 0 → A.ns = (ndF s P0i E0i).ns) := by show _ → _; rw [hA]; exact HXN.out
              obtain ⟨N, R, T⟩ := RN
              rw [← hA] at N R hp' he'
              clear hA HXP HXE HXN HJ2
              obtain ⟨U1, R1, t1, s1, c1⟩ := refNext_any hr s A.p A.e 1 wr R HS.out
              have N1 := N.turns t1 (by omega) (by omega)
              have TT1 : Turns (fun k => k = hr ∨ wo.heap.size ≤ k) wo U1 := T.trans (t1.mono fun k h => .inl h)
              obtain ⟨X1, hX1⟩ : ∃ X1, X1 = U1.setCell ⟨wo.heap.size, 1, none⟩ (.int .i64 (gnR s A.p A.e 1)) := ⟨_, rfl⟩
              have R1' : BoxL X1 hr [.string s, .int .i64 (gnP s A.p A.e 1), .int .i64 (gnE s A.p A.e 1)] := by rw [hX1]; exact R1.off (by omega)
              have M1 : TkAt X1 wo.heap.size (wo.heap.size + 1) u' (.int .i64 (gnR s A.p A.e 1)) (.int .i64 0) (.int .i64 0) A.ns := by
                rw [hX1]; exact ⟨N1.box.put1 _, owns_off N1.row N1.off 1 _, N1.off, by simpa using N1.le⟩
              have TX1 : Turns (fun k => k = hr ∨ wo.heap.size ≤ k) wo X1 := by rw [hX1]; exact TT1.setCell (p := ⟨wo.heap.size, 1, none⟩) (.inr (Nat.le_refl _)) _
              obtain ⟨U2, R2, t2, s2, c2⟩ := refNext_any hr s (gnP s A.p A.e 1) (gnE s A.p A.e 1) 3 X1 R1' HS.out
              have N2 := M1.turns t2 (by omega) (by omega)
              have TT2 : Turns (fun k => k = hr ∨ wo.heap.size ≤ k) wo U2 := TX1.trans (t2.mono fun k h => .inl h)
              obtain ⟨X2, hX2⟩ : ∃ X2, X2 = U2.setCell ⟨wo.heap.size, 2, none⟩ (.int .i64 (gnR s (gnP s A.p A.e 1) (gnE s A.p A.e 1) 3)) := ⟨_, rfl⟩
              have R2' : BoxL X2 hr [.string s, .int .i64 (gnP s (gnP s A.p A.e 1) (gnE s A.p A.e 1) 3), .int .i64 (gnE s (gnP s A.p A.e 1) (gnE s A.p A.e 1) 3)] := by rw [hX2]; exact R2.off (by omega)
              have M2 : TkAt X2 wo.heap.size (wo.heap.size + 1) u' (.int .i64 (gnR s A.p A.e 1)) (.int .i64 (gnR s (gnP s A.p A.e 1) (gnE s A.p A.e 1) 3)) (.int .i64 0) A.ns := by
                rw [hX2]; exact ⟨N2.box.put2 _, owns_off N2.row N2.off 2 _, N2.off, by simpa using N2.le⟩
              have TX2 : Turns (fun k => k = hr ∨ wo.heap.size ≤ k) wo X2 := by rw [hX2]; exact TT2.setCell (p := ⟨wo.heap.size, 2, none⟩) (.inr (Nat.le_refl _)) _
              obtain ⟨U3, R3, t3, s3, c3⟩ := refNext_any hr s (gnP s (gnP s A.p A.e 1) (gnE s A.p A.e 1) 3) (gnE s (gnP s A.p A.e 1) (gnE s A.p A.e 1) 3) 3 X2 R2' HS.out
              have N3 := M2.turns t3 (by omega) (by omega)
              have TT3 : Turns (fun k => k = hr ∨ wo.heap.size ≤ k) wo U3 := TX2.trans (t3.mono fun k h => .inl h)
              have HEp : gnP s (gnP s (gnP s A.p A.e 1) (gnE s A.p A.e 1) 3) (gnE s (gnP s A.p A.e 1) (gnE s A.p A.e 1) 3) 3 = (tkSt s P0i E0i).p := by rw [hp', he']; rfl
              have HEe : gnE s (gnP s (gnP s A.p A.e 1) (gnE s A.p A.e 1) 3) (gnE s (gnP s A.p A.e 1) (gnE s A.p A.e 1) 3) 3 = (tkSt s P0i E0i).e := by rw [hp', he']; rfl
              have HEt : gnE s (gnP s (gnP s A.p A.e 1) (gnE s A.p A.e 1) 3) (gnE s (gnP s A.p A.e 1) (gnE s A.p A.e 1) 3) 3 = 0 → (⟨A.ns, gnR s A.p A.e 1, gnR s (gnP s A.p A.e 1) (gnE s A.p A.e 1) 3, gnR s (gnP s (gnP s A.p A.e 1) (gnE s A.p A.e 1) 3) (gnE s (gnP s A.p A.e 1) (gnE s A.p A.e 1) 3) 3⟩ : TaskP) = (tkSt s P0i E0i).t := fun h => by
                have a3 := (gn_ok h).1
                have a2 := (gn_ok a3).1
                have a1 := (gn_ok a2).1
                rw [HXN2.out a1, hp', he']; rfl
              generalize gnP s (gnP s (gnP s A.p A.e 1) (gnE s A.p A.e 1) 3) (gnE s (gnP s A.p A.e 1) (gnE s A.p A.e 1) 3) 3 = P3 at *
              generalize gnE s (gnP s (gnP s A.p A.e 1) (gnE s A.p A.e 1) 3) (gnE s (gnP s A.p A.e 1) (gnE s A.p A.e 1) 3) 3 = E3 at *
              generalize gnR s (gnP s (gnP s A.p A.e 1) (gnE s A.p A.e 1) 3) (gnE s (gnP s A.p A.e 1) (gnE s A.p A.e 1) 3) 3 = le at *
              generalize gnR s (gnP s A.p A.e 1) (gnE s A.p A.e 1) 3 = wt at *
              generalize gnR s A.p A.e 1 = tr at *
              obtain ⟨X3, hX3⟩ : ∃ X3, X3 = U3.setCell ⟨wo.heap.size, 3, none⟩ (.int .i64 le) := ⟨_, rfl⟩
              have R3' : BoxL X3 hr [.string s, .int .i64 P3, .int .i64 E3] := by rw [hX3]; exact R3.off (by omega)
              have M3 : TkAt X3 wo.heap.size (wo.heap.size + 1) u' (.int .i64 tr) (.int .i64 wt) (.int .i64 le) A.ns := by
                rw [hX3]; exact ⟨N3.box.put3 _, owns_off N3.row N3.off 3 _, N3.off, by simpa using N3.le⟩
              have TX3 : Turns (fun k => k = hr ∨ wo.heap.size ≤ k) wo X3 := by rw [hX3]; exact TT3.setCell (p := ⟨wo.heap.size, 3, none⟩) (.inr (Nat.le_refl _)) _
              obtain ⟨a, c, rfl, -, hI3, hFr⟩ := owns_I M3.row
              obtain ⟨g', cap, V3, x, x0, x1, hrun, x3, HNX⟩ := rr_push HJ.out (by omega) TX3 R3' hI3 hFr (by rw [HEp, ← HP0i.out, ← HE0i.out]; rfl) (by rw [HEe, ← HP0i.out, ← HE0i.out]; rfl) HZ.out (fun h => by rw [HEt h, HP0i.out, HE0i.out])
              obtain ⟨X4, hX4⟩ : ∃ X, X = V3.setCell ⟨hd, 1, none⟩ (.slice (some ⟨g', 0, none⟩) (i + 1) cap) := ⟨_, rfl⟩
              rw [← hX4] at HNX
              have HX4 : Hid (V3.setCell ⟨hd, 1, none⟩ (.slice (some ⟨g', 0, none⟩) (i + 1) cap) = X4) := hX4.symm
              have HN4 : Hid (RrGood V hr hd s nm P0 E0 (i + 1) X4 (.slice (some ⟨g', 0, none⟩) (i + 1) cap) (ts ++ [x])) := HNX
              obtain ⟨⟨m0, m1, m2, m3⟩, -⟩ := id M3.box
              obtain ⟨⟨-, -, -, v13⟩, -, -, -, g13⟩ := id N3.box
              obtain ⟨⟨-, -, v12, -⟩, -, -, g12, -⟩ := id N2.box
              obtain ⟨⟨-, v11, -, -⟩, -, g11, -, -⟩ := id N1.box
              have y0 := x0.1 1 _ rfl
              have y1 := x1.1 1 _ rfl
              have y3 := x3.1 1 _ rfl
              have z3 := x3.2 1 (by simp)
              have e1 : Hid (U1.setCell ⟨wo.heap.size, 1, none⟩ (.int .i64 tr) = X1) := hX1.symm
              have e2 : Hid (U2.setCell ⟨wo.heap.size, 2, none⟩ (.int .i64 wt) = X2) := hX2.symm
              have tok1 : True := trivial
              have tok2 : True := trivial
              rw [hX1] at c2
              rw [hX2] at c3
              rw [hX3] at m0 m1 m2 m3 y0 y1 hrun
              rw [show (U3.setCell ⟨wo.heap.size, 3, none⟩ (.int .i64 le)).heap.size = U3.heap.size by simp] at hrun
              obtain ⟨KN, hKN⟩ : ∃ m, m = A.ns.length := ⟨_, rfl⟩
              rw [← hKN] at m0 hrun y1
              clear N N1 N2 N3 R R1 R2 R3 R1' R2' R3' M1 M2 M3 T TT1 TT2 TT3 TX1 TX2 TX3 t1 t2 t3 s1 s2 s3 hX1 hX2 hX3 hI3 hFr HEp HEe HEt hp' he' HNX hX4 hKN x0 x1 x3 HXN2 HJ
              go_wp2_with (first
                | (go_at_call 51; have _t := tok1; refine c1.mono ?_; rintro x w' ⟨rfl, rfl⟩; clear tok1 _t)
                | (go_at_call 51; have _t := tok2; refine c2.mono ?_; rintro x w' ⟨rfl, rfl⟩; clear tok2 _t)
                | (go_at_call 51; refine c3.mono ?_; rintro x w' ⟨rfl, rfl⟩)
                | (at_builtin; refine Lib.wpList_append_run _ rfl _ _ _ _ rfl _ _ rfl rfl _ _ hrun ?_))
              rw [HX4.out]
              go_roundw
              case rel => exact ⟨i + 1, _, _, by omega, by go_num, HN4⟩
              case measure => simp [intOf]; omega
          · obtain rfl : K = j := by omega
            have hx : ¬ (K : Int) < K := by omega
            have HXP : Hid ((ndSt s P1 E1 K).p = (ndF s P0i E0i).p) := by show _ = _; rw [HNF.out]
            have HXE : Hid ((ndSt s P1 E1 K).e = (ndF s P0i E0i).e) := by show _ = _; rw [HNF.out]
            have HXN : Hid ((ndSt s P1 E1 K).e = 0 → (ndSt s P1 E1 K).ns = (ndF s P0i E0i).ns) := fun _ => by rw [HNF.out]
            obtain ⟨j, hjK⟩ : ∃ j, j = K := ⟨_, rfl⟩
            rw [← hjK] at HXP HXE HXN HJ2 HEj
            clear hjK
            have RN := HJ2.out
            have hp' : (ndSt s P1 E1 j).p = (ndF s P0i E0i).p := HXP.out
            have he' : (ndSt s P1 E1 j).e = (ndF s P0i E0i).e := HXE.out
            obtain ⟨A, hA⟩ : ∃ A, A = ndSt s P1 E1 j := ⟨_, rfl⟩
            have HXN2 : Hid (A.e = 0 → A.ns = (ndF s P0i E0i).ns) := by show _ → _; rw [hA]; exact HXN.out
            obtain ⟨N, R, T⟩ := RN
            rw [← hA] at N R hp' he'
            clear hA HXP HXE HXN HJ2
            obtain ⟨U1, R1, t1, s1, c1⟩ := refNext_any hr s A.p A.e 1 wr R HS.out
            have N1 := N.turns t1 (by omega) (by omega)
            have TT1 : Turns (fun k => k = hr ∨ wo.heap.size ≤ k) wo U1 := T.trans (t1.mono fun k h => .inl h)
            obtain ⟨X1, hX1⟩ : ∃ X1, X1 = U1.setCell ⟨wo.heap.size, 1, none⟩ (.int .i64 (gnR s A.p A.e 1)) := ⟨_, rfl⟩
            have R1' : BoxL X1 hr [.string s, .int .i64 (gnP s A.p A.e 1), .int .i64 (gnE s A.p A.e 1)] := by rw [hX1]; exact R1.off (by omega)
            have M1 : TkAt X1 wo.heap.size (wo.heap.size + 1) u' (.int .i64 (gnR s A.p A.e 1)) (.int .i64 0) (.int .i64 0) A.ns := by
              rw [hX1]; exact ⟨N1.box.put1 _, owns_off N1.row N1.off 1 _, N1.off, by simpa using N1.le⟩
            have TX1 : Turns (fun k => k = hr ∨ wo.heap.size ≤ k) wo X1 := by rw [hX1]; exact TT1.setCell (p := ⟨wo.heap.size, 1, none⟩) (.inr (Nat.le_refl _)) _
            obtain ⟨U2, R2, t2, s2, c2⟩ := refNext_any hr s (gnP s A.p A.e 1) (gnE s A.p A.e 1) 3 X1 R1' HS.out
            have N2 := M1.turns t2 (by omega) (by omega)
            have TT2 : Turns (fun k => k = hr ∨ wo.heap.size ≤ k) wo U2 := TX1.trans (t2.mono fun k h => .inl h)
            obtain ⟨X2, hX2⟩ : ∃ X2, X2 = U2.setCell ⟨wo.heap.size, 2, none⟩ (.int .i64 (gnR s (gnP s A.p A.e 1) (gnE s A.p A.e 1) 3)) := ⟨_, rfl⟩
            have R2' : BoxL X2 hr [.string s, .int .i64 (gnP s (gnP s A.p A.e 1) (gnE s A.p A.e 1) 3), .int .i64 (gnE s (gnP s A.p A.e 1) (gnE s A.p A.e 1) 3)] := by rw [hX2]; exact R2.off (by omega)
            have M2 : TkAt X2 wo.heap.size (wo.heap.size + 1) u' (.int .i64 (gnR s A.p A.e 1)) (.int .i64 (gnR s (gnP s A.p A.e 1) (gnE s A.p A.e 1) 3)) (.int .i64 0) A.ns := by
              rw [hX2]; exact ⟨N2.box.put2 _, owns_off N2.row N2.off 2 _, N2.off, by simpa using N2.le⟩
            have TX2 : Turns (fun k => k = hr ∨ wo.heap.size ≤ k) wo X2 := by rw [hX2]; exact TT2.setCell (p := ⟨wo.heap.size, 2, none⟩) (.inr (Nat.le_refl _)) _
            obtain ⟨U3, R3, t3, s3, c3⟩ := refNext_any hr s (gnP s (gnP s A.p A.e 1) (gnE s A.p A.e 1) 3) (gnE s (gnP s A.p A.e 1) (gnE s A.p A.e 1) 3) 3 X2 R2' HS.out
            have N3 := M2.turns t3 (by omega) (by omega)
            have TT3 : Turns (fun k => k = hr ∨ wo.heap.size ≤ k) wo U3 := TX2.trans (t3.mono fun k h => .inl h)
            have HEp : gnP s (gnP s (gnP s A.p A.e 1) (gnE s A.p A.e 1) 3) (gnE s (gnP s A.p A.e 1) (gnE s A.p A.e 1) 3) 3 = (tkSt s P0i E0i).p := by rw [hp', he']; rfl
            have HEe : gnE s (gnP s (gnP s A.p A.e 1) (gnE s A.p A.e 1) 3) (gnE s (gnP s A.p A.e 1) (gnE s A.p A.e 1) 3) 3 = (tkSt s P0i E0i).e := by rw [hp', he']; rfl
            have HEt : gnE s (gnP s (gnP s A.p A.e 1) (gnE s A.p A.e 1) 3) (gnE s (gnP s A.p A.e 1) (gnE s A.p A.e 1) 3) 3 = 0 → (⟨A.ns, gnR s A.p A.e 1, gnR s (gnP s A.p A.e 1) (gnE s A.p A.e 1) 3, gnR s (gnP s (gnP s A.p A.e 1) (gnE s A.p A.e 1) 3) (gnE s (gnP s A.p A.e 1) (gnE s A.p A.e 1) 3) 3⟩ : TaskP) = (tkSt s P0i E0i).t := fun h => by
              have a3 := (gn_ok h).1
              have a2 := (gn_ok a3).1
              have a1 := (gn_ok a2).1
              rw [HXN2.out a1, hp', he']; rfl
            generalize gnP s (gnP s (gnP s A.p A.e 1) (gnE s A.p A.e 1) 3) (gnE s (gnP s A.p A.e 1) (gnE s A.p A.e 1) 3) 3 = P3 at *
            generalize gnE s (gnP s (gnP s A.p A.e 1) (gnE s A.p A.e 1) 3) (gnE s (gnP s A.p A.e 1) (gnE s A.p A.e 1) 3) 3 = E3 at *
            generalize gnR s (gnP s (gnP s A.p A.e 1) (gnE s A.p A.e 1) 3) (gnE s (gnP s A.p A.e 1) (gnE s A.p A.e 1) 3) 3 = le at *
            generalize gnR s (gnP s A.p A.e 1) (gnE s A.p A.e 1) 3 = wt at *
            generalize gnR s A.p A.e 1 = tr at *
            obtain ⟨X3, hX3⟩ : ∃ X3, X3 = U3.setCell ⟨wo.heap.size, 3, none⟩ (.int .i64 le) := ⟨_, rfl⟩
            have R3' : BoxL X3 hr [.string s, .int .i64 P3, .int .i64 E3] := by rw [hX3]; exact R3.off (by omega)
            have M3 : TkAt X3 wo.heap.size (wo.heap.size + 1) u' (.int .i64 tr) (.int .i64 wt) (.int .i64 le) A.ns := by
              rw [hX3]; exact ⟨N3.box.put3 _, owns_off N3.row N3.off 3 _, N3.off, by simpa using N3.le⟩
            have TX3 : Turns (fun k => k = hr ∨ wo.heap.size ≤ k) wo X3 := by rw [hX3]; exact TT3.setCell (p := ⟨wo.heap.size, 3, none⟩) (.inr (Nat.le_refl _)) _
            obtain ⟨a, c, rfl, -, hI3, hFr⟩ := owns_I M3.row
            obtain ⟨g', cap, V3, x, x0, x1, hrun, x3, HNX⟩ := rr_push HJ.out (by omega) TX3 R3' hI3 hFr (by rw [HEp, ← HP0i.out, ← HE0i.out]; rfl) (by rw [HEe, ← HP0i.out, ← HE0i.out]; rfl) HZ.out (fun h => by rw [HEt h, HP0i.out, HE0i.out])
            obtain ⟨X4, hX4⟩ : ∃ X, X = V3.setCell ⟨hd, 1, none⟩ (.slice (some ⟨g', 0, none⟩) (i + 1) cap) := ⟨_, rfl⟩
            rw [← hX4] at HNX
            have HX4 : Hid (V3.setCell ⟨hd, 1, none⟩ (.slice (some ⟨g', 0, none⟩) (i + 1) cap) = X4) := hX4.symm
            have HN4 : Hid (RrGood V hr hd s nm P0 E0 (i + 1) X4 (.slice (some ⟨g', 0, none⟩) (i + 1) cap) (ts ++ [x])) := HNX
            obtain ⟨⟨m0, m1, m2, m3⟩, -⟩ := id M3.box
            obtain ⟨⟨-, -, -, v13⟩, -, -, -, g13⟩ := id N3.box
            obtain ⟨⟨-, -, v12, -⟩, -, -, g12, -⟩ := id N2.box
            obtain ⟨⟨-, v11, -, -⟩, -, g11, -, -⟩ := id N1.box
            have y0 := x0.1 1 _ rfl
            have y1 := x1.1 1 _ rfl
            have y3 := x3.1 1 _ rfl
            have z3 := x3.2 1 (by simp)
            have e1 : Hid (U1.setCell ⟨wo.heap.size, 1, none⟩ (.int .i64 tr) = X1) := hX1.symm
            have e2 : Hid (U2.setCell ⟨wo.heap.size, 2, none⟩ (.int .i64 wt) = X2) := hX2.symm
            have tok1 : True := trivial
            have tok2 : True := trivial
            rw [hX1] at c2
            rw [hX2] at c3
            rw [hX3] at m0 m1 m2 m3 y0 y1 hrun
            rw [show (U3.setCell ⟨wo.heap.size, 3, none⟩ (.int .i64 le)).heap.size = U3.heap.size by simp] at hrun
            obtain ⟨KN, hKN⟩ : ∃ m, m = A.ns.length := ⟨_, rfl⟩
            rw [← hKN] at m0 hrun y1
            clear N N1 N2 N3 R R1 R2 R3 R1' R2' R3' M1 M2 M3 T TT1 TT2 TT3 TX1 TX2 TX3 t1 t2 t3 s1 s2 s3 hX1 hX2 hX3 hI3 hFr HEp HEe HEt hp' he' HNX hX4 hKN x0 x1 x3 HXN2 HJ
            go_wp2_with (first
              | (go_at_call 51; have _t := tok1; refine c1.mono ?_; rintro x w' ⟨rfl, rfl⟩; clear tok1 _t)
              | (go_at_call 51; have _t := tok2; refine c2.mono ?_; rintro x w' ⟨rfl, rfl⟩; clear tok2 _t)
              | (go_at_call 51; refine c3.mono ?_; rintro x w' ⟨rfl, rfl⟩)
              | (at_builtin; refine Lib.wpList_append_run _ rfl _ _ _ _ rfl _ _ rfl rfl _ _ hrun ?_))
            rw [HX4.out]
            go_roundw
            case rel => exact ⟨i + 1, _, _, by omega, by go_num, HN4⟩
            case measure => simp [intOf]; omega
      · have heb : (E0i == 0) = false := by simpa using hE
        have HXP : Hid ((dgF s).p = (dgSt s P0 E0 i).p) := by
          show _ = _
          rw [HF.out, show M = i + (M - i) by omega, dgSt_stuckP (by rw [HE0i.out]; exact hE)]
        have HXE : Hid ((dgF s).e = (dgSt s P0 E0 i).e) := by
          show _ = _
          rw [HF.out, show M = i + (M - i) by omega, dgSt_stuck (by rw [HE0i.out]; exact hE)]
        have HXN : Hid ((dgF s).e = 0 → plainT ts = (dgF s).ts) := fun h => absurd (HE0i.out.symm.trans (HXE.out.symm.trans h)) hE
        clear hE bR
        have D := HJ.out.d
        have hrow := D.row
        obtain ⟨a, c, rfl, hT, hF⟩ := owned_isT hrow rfl D.nd
        obtain ⟨KT, hKT⟩ : ∃ k, k = ts.length := ⟨_, rfl⟩
        have q0 := D.box.1 0 _ rfl
        have q1 := D.box.1 1 _ rfl
        have o := HJ.out.o
        have z0 := o.1 0 _ rfl
        have z1 := o.1 1 _ rfl
        have y0 := o.2 0 (by simp)
        have y1 := o.2 1 (by simp)
        have k := (o.set 0 (.string nm)).set 1 (.slice a ts.length c)
        have k0 := k.1 0 _ rfl
        have k1 := k.1 1 _ rfl
        have HE : Hid (BoxL ((wo.setCell ⟨V.heap.size, 0, none⟩ (.string nm)).setCell ⟨V.heap.size, 1, none⟩ (.slice a ts.length c)) hr [.string s, .int .i64 (dgF s).p, .int .i64 (dgF s).e] ∧ IsT ((wo.setCell ⟨V.heap.size, 0, none⟩ (.string nm)).setCell ⟨V.heap.size, 1, none⟩ (.slice a ts.length c)) a c ts ∧ From V.heap.size a ∧ NeedsFrom V.heap.size ts ∧ Turns (fun k => k = hr) V ((wo.setCell ⟨V.heap.size, 0, none⟩ (.string nm)).setCell ⟨V.heap.size, 1, none⟩ (.slice a ts.length c))) := by
          have g1 := HJ.out.h1
          have g2 := HJ.out.h2
          have tt : Turns (fun i => i = V.heap.size) wo ((wo.setCell ⟨V.heap.size, 0, none⟩ (.string nm)).setCell ⟨V.heap.size, 1, none⟩ (.slice a ts.length c)) := ((Turns.refl (fun i => i = V.heap.size) wo).setCell (p := ⟨V.heap.size, 0, none⟩) rfl (.string nm)).setCell (p := ⟨V.heap.size, 1, none⟩) rfl _
          refine ⟨?_, hT.turns' tt (fun x hx e => by have := hF x hx; omega) (fun v hv hne x hx e => by have := (D.ap v hv hne x hx).1; omega), hF.mono (by omega), (fun v hv hne x hx => by have := (D.ap v hv hne x hx).1; omega), ?_⟩
          · rw [HXP.out, HXE.out]
            exact boxL_turns HJ.out.r tt (by omega)
          · exact (((HJ.out.t.mono (fun k h => (.inl h : k = hr ∨ k = V.heap.size))).trans (tt.mono fun k h => .inr h))).mono' fun k hk h => by rcases h with h | h; exact h; omega
        rw [← hKT] at q1 k0 k1 HE
        have HKT : Hid (KT = ts.length) := hKT
        clear hKT D hrow hT hF o k HJ
        go_wp2
        exact bodyPost_ret (v := .agg #[.string nm, .slice a KT c]) (by simp [results, Try.results36, go_sem, k0, k1]) rfl ⟨a, c, ts, by rw [HKT.out], HE.out.1, HXN.out, HE.out.2⟩
    · obtain rfl : M = i := by omega
      have hx : ¬ (M : Int) < M := by omega
      have HXP : Hid ((dgF s).p = (dgSt s P0 E0 M).p) := by show _ = _; rw [HF.out]
      have HXE : Hid ((dgF s).e = (dgSt s P0 E0 M).e) := by show _ = _; rw [HF.out]
      have HXN : Hid ((dgF s).e = 0 → plainT ts = (dgF s).ts) := fun h => by rw [HF.out] at h ⊢; exact HJ.out.p h
      obtain ⟨i, hiM⟩ : ∃ j, j = M := ⟨_, rfl⟩
      rw [← hiM] at HXP HXE HJ
      clear hiM bR
      have D := HJ.out.d
      have hrow := D.row
      obtain ⟨a, c, rfl, hT, hF⟩ := owned_isT hrow rfl D.nd
      obtain ⟨KT, hKT⟩ : ∃ k, k = ts.length := ⟨_, rfl⟩
      have q0 := D.box.1 0 _ rfl
      have q1 := D.box.1 1 _ rfl
      have o := HJ.out.o
      have z0 := o.1 0 _ rfl
      have z1 := o.1 1 _ rfl
      have y0 := o.2 0 (by simp)
      have y1 := o.2 1 (by simp)
      have k := (o.set 0 (.string nm)).set 1 (.slice a ts.length c)
      have k0 := k.1 0 _ rfl
      have k1 := k.1 1 _ rfl
      have HE : Hid (BoxL ((wo.setCell ⟨V.heap.size, 0, none⟩ (.string nm)).setCell ⟨V.heap.size, 1, none⟩ (.slice a ts.length c)) hr [.string s, .int .i64 (dgF s).p, .int .i64 (dgF s).e] ∧ IsT ((wo.setCell ⟨V.heap.size, 0, none⟩ (.string nm)).setCell ⟨V.heap.size, 1, none⟩ (.slice a ts.length c)) a c ts ∧ From V.heap.size a ∧ NeedsFrom V.heap.size ts ∧ Turns (fun k => k = hr) V ((wo.setCell ⟨V.heap.size, 0, none⟩ (.string nm)).setCell ⟨V.heap.size, 1, none⟩ (.slice a ts.length c))) := by
        have g1 := HJ.out.h1
        have g2 := HJ.out.h2
        have tt : Turns (fun i => i = V.heap.size) wo ((wo.setCell ⟨V.heap.size, 0, none⟩ (.string nm)).setCell ⟨V.heap.size, 1, none⟩ (.slice a ts.length c)) := ((Turns.refl (fun i => i = V.heap.size) wo).setCell (p := ⟨V.heap.size, 0, none⟩) rfl (.string nm)).setCell (p := ⟨V.heap.size, 1, none⟩) rfl _
        refine ⟨?_, hT.turns' tt (fun x hx e => by have := hF x hx; omega) (fun v hv hne x hx e => by have := (D.ap v hv hne x hx).1; omega), hF.mono (by omega), (fun v hv hne x hx => by have := (D.ap v hv hne x hx).1; omega), ?_⟩
        · rw [HXP.out, HXE.out]
          exact boxL_turns HJ.out.r tt (by omega)
        · exact (((HJ.out.t.mono (fun k h => (.inl h : k = hr ∨ k = V.heap.size))).trans (tt.mono fun k h => .inr h))).mono' fun k hk h => by rcases h with h | h; exact h; omega
      rw [← hKT] at q1 k0 k1 HE
      have HKT : Hid (KT = ts.length) := hKT
      clear hKT D hrow hT hF o k HJ
      go_wp2
      exact bodyPost_ret (v := .agg #[.string nm, .slice a KT c]) (by simp [results, Try.results36, go_sem, k0, k1]) rfl ⟨a, c, ts, by rw [HKT.out], HE.out.1, HXN.out, HE.out.2⟩

end Go.Proofs.Ytmjhapkhfelbpaa

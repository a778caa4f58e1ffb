/-
  Package dag: read.
-/
import Derived.Test.YtmjhapkhfelbpaaDagReadTask
namespace Go.Proofs.Ytmjhapkhfelbpaa
open Go.RowKit Plain Anylast
set_option linter.unusedVariables false

theorem isI_turns' {P : Nat → Prop} {w w' : World} {a : Option Addr} {c : Nat} {ms : List Int} (h : IsI w a c ms) (t : Turns P w w') (hp : ms ≠ [] → ∀ x, a = Option.some x → ¬ P x.block) : IsI w' a c ms := by
  by_cases e : ms = []
  · subst e; exact ⟨h.1, h.2.1, fun j m hj => by simp at hj⟩
  · exact h.turns t (hp e)

theorem boxL_turns {P : Nat → Prop} {w w' : World} {h : Nat} {vs : List Value} (b : BoxL w h vs) (t : Turns P w w') (hp : ¬ P h) : BoxL w' h vs := by
  refine ⟨fun i v hv => t.cell (p := ⟨h, i, none⟩) hp (b.1 i v hv), fun i hi => t.frozen (p := ⟨h, i, none⟩) (b.lt (by omega)) hp (b.2 i hi)⟩

/-- A graph in a box of its own at h; its tasks lie from B on. -/
structure DgAt (V : World) (h B : Nat) (nm : ByteArray) (u : Value) (ts : List TaskV) : Prop where
  box : BoxL V h [.string nm, u]
  row : V.ownsRow B 46 4 u ts.length (cellsT ts)
  off : Off h u
  nd : NeedsIn V ts
  ap : ∀ t ∈ ts, t.ns ≠ [] → ∀ x, t.a = some x → B ≤ x.block ∧ u.ownBlock ≠ some x.block
  le : B ≤ V.heap.size
  hh : h < B

theorem DgAt.turns {P : Nat → Prop} {V V' : World} {h B : Nat} {nm : ByteArray} {u : Value} {ts : List TaskV} (n : DgAt V h B nm u ts) (t : Turns P V V') (hp : ¬ P h) (hb : ∀ k, P k → k < B) : DgAt V' h B nm u ts :=
  ⟨boxL_turns n.box t hp, t.owns n.row fun g hg x => by have := (n.row.lt g hg).1; have := hb g x; omega, n.off, fun y hy => isI_turns' (n.nd y hy) t (fun hne x hx e => by have := (n.ap y hy hne x hx).1; have := hb _ e; omega), n.ap, Nat.le_trans n.le t.size, n.hh⟩

theorem DgAt.drew {V : World} {h B : Nat} {nm : ByteArray} {u : Value} {ts : List TaskV} (n : DgAt V h B nm u ts) : DgAt V.drew h B nm u ts := n.turns (P := fun _ => False) (Turns.refl _ _).drew id (fun _ x => x.elim)

/-- One task more. -/
theorem DgAt.push {V : World} {h B : Nat} {nm : ByteArray} {u : Value} {ts : List TaskV} (n : DgAt V h B nm u ts) (x : TaskV) (hI : IsI V x.a x.c x.ns) (hx : x.ns ≠ [] → ∀ y, x.a = some y → B ≤ y.block ∧ u.ownBlock ≠ some y.block) (hl : ts.length ≤ 4096) :
    ∃ g cap w', (Builtin.append_ #[22, 22] 22 #[u, .slice (some ⟨V.heap.size, 0, none⟩) 1 1]).run Try.prog (V.alloc (.cells #[.slice x.a x.ns.length x.c, .int .i64 x.tr, .int .i64 x.wt, .int .i64 x.le] 46)) = .ok (.slice (some ⟨g, 0, none⟩) (ts.length + 1) cap) w' ∧ BoxL w' h [.string nm, u] ∧
      DgAt (w'.setCell ⟨h, 1, none⟩ (.slice (some ⟨g, 0, none⟩) (ts.length + 1) cap)) h B nm (.slice (some ⟨g, 0, none⟩) (ts.length + 1) cap) (ts ++ [x]) ∧ Turns (Own h B) V (w'.setCell ⟨h, 1, none⟩ (.slice (some ⟨g, 0, none⟩) (ts.length + 1) cap)) := by
  obtain ⟨g, cap, w', hrun, hown, hgr, hat, hge, hlt⟩ := push_K V B u ts.length ts x n.row n.le (by omega)
  have t0 : Turns (fun k => u.ownBlock = some k) V w' := ((Turns.refl _ _).alloc _).grown hgr (fun k hk => hk)
  have hbox : BoxL w' h [.string nm, u] := boxL_turns n.box t0 fun hk => n.off h hk rfl
  have hlh : h < V.heap.size := n.box.lt (by simp)
  have hh : h < V.heap.size + 1 := by omega
  have hoff : Off h (.slice (some ⟨g, 0, none⟩) (ts.length + 1) cap) := off_grown n.off hat hh
  have t1 : Turns (Own h B) V (w'.setCell ⟨h, 1, none⟩ (.slice (some ⟨g, 0, none⟩) (ts.length + 1) cap)) := (t0.mono fun k hk => .inr (n.row.lt k hk).1).setCell (p := ⟨h, 1, none⟩) (.inl rfl) _
  have t2 : Turns (fun k => u.ownBlock = some k ∨ k = h) V (w'.setCell ⟨h, 1, none⟩ (.slice (some ⟨g, 0, none⟩) (ts.length + 1) cap)) := (t0.mono fun k hk => .inl hk).setCell (p := ⟨h, 1, none⟩) (.inr rfl) _
  have hIn : ∀ {t : TaskV}, IsI V t.a t.c t.ns → t.ns ≠ [] → ∀ y, t.a = some y → y.block < V.heap.size := by
    intro t ht hne y hy
    obtain ⟨m, hm⟩ : ∃ m, t.ns[0]? = some m := by
      cases hc : t.ns with
      | nil => exact absurd hc hne
      | cons m l => exact ⟨m, rfl⟩
    obtain ⟨b, o, e, hb, _⟩ := ht.2.2 0 m hm
    rw [hy] at e
    cases e
    exact hb
  have hall : ∀ t ∈ ts ++ [x], IsI V t.a t.c t.ns ∧ (t.ns ≠ [] → ∀ y, t.a = some y → B ≤ y.block ∧ u.ownBlock ≠ some y.block) := by
    intro t ht
    rcases List.mem_append.1 ht with ht | ht
    · exact ⟨n.nd t ht, n.ap t ht⟩
    · obtain rfl : t = x := by simpa using ht
      exact ⟨hI, hx⟩
  refine ⟨g, cap, w', hrun, hbox, ⟨hbox.set 1 _, ?_, hoff, fun t ht => ?_, fun t ht hne y hy => ?_, ?_, n.hh⟩, t1⟩
  · rw [List.length_append]
    exact owns_off hown hoff 1 _
  · obtain ⟨h1, h2⟩ := hall t ht
    refine isI_turns' h1 t2 fun hne y hy e => ?_
    rcases e with e | e
    · exact (h2 hne y hy).2 e
    · have := (h2 hne y hy).1
      have := n.hh
      omega
  · obtain ⟨h1, h2⟩ := hall t ht
    refine ⟨(h2 hne y hy).1, fun e => ?_⟩
    simp [Value.ownBlock] at e
    rcases hat with hg | hg
    · exact (h2 hne y hy).2 (by rw [hg, e])
    · have := hIn h1 hne y hy
      omega
  · have := t0.size
    have := n.le
    simp; omega


/-- The needs of all lie from there on. -/
def NeedsFrom (B : Nat) (ts : List TaskV) : Prop := ∀ t ∈ ts, t.ns ≠ [] → ∀ x, t.a = some x → B ≤ x.block

theorem IsT.turns' {P : Nat → Prop} {w w' : World} {a : Option Addr} {c : Nat} {ts : List TaskV} (h : IsT w a c ts) (t : Turns P w w') (hp : ∀ x, a = Option.some x → ¬ P x.block) (hn : ∀ u ∈ ts, u.ns ≠ [] → ∀ x, u.a = Option.some x → ¬ P x.block) : IsT w' a c ts := by
  refine ⟨h.1, h.2.1, fun u hu => isI_turns' (h.2.2.1 u hu) t (hn u hu), fun j u hu => ?_⟩
  obtain ⟨b, o, ha, hl, c0, c1, c2, c3⟩ := h.2.2.2 j u hu
  have hb := hp _ ha
  exact ⟨b, o, ha, Nat.lt_of_lt_of_le hl t.size, t.cell (p := ⟨b, o + j * 4, none⟩) hb c0, t.cell (p := ⟨b, o + j * 4 + 1, none⟩) hb c1, t.cell (p := ⟨b, o + j * 4 + 2, none⟩) hb c2, t.cell (p := ⟨b, o + j * 4 + 3, none⟩) hb c3⟩

def RdGood (w : World) (s nm : ByteArray) (P0 E0 : Int) (j : Nat) (W : World) (u : Value) (ts : List TaskV) : Prop :=
  DgAt W (w.heap.size + 1 + 1) (w.heap.size + 5) nm u ts ∧ NxAt W w.heap.size (w.heap.size + 1 + 1 + 1) (w.heap.size + 1 + 1 + 1 + 1) s (dgSt s P0 E0 j).p (dgSt s P0 E0 j).e ∧ BoxL W (w.heap.size + 1) [.string ⟨#[]⟩, .slice none 0 0] ∧ Below w.heap.size w W ∧ plainT ts = (dgSt s P0 E0 j).ts

/-- One task read and put at the end: all worlds on the way. -/
theorem rd_step {w : World} {s nm : ByteArray} {P0 E0 : Int} {j : Nat} {W : World} {u : Value} {ts : List TaskV} (hz : s.size ≤ maxLen) (hj : j ≤ 4096) (h : RdGood w s nm P0 E0 j W u ts) :
    ∃ g cap V1 V3 a c n tr wt le x, Calls Try.prog 49 #[.func (.func 47) #[] #[.pointer (some ⟨w.heap.size + 1 + 1 + 1 + 1, 0, none⟩), .pointer (some ⟨w.heap.size, 0, none⟩), .pointer (some ⟨w.heap.size + 1 + 1 + 1, 0, none⟩)]] W.drew (fun e w' => e = .returned (.agg #[.slice a n c, .int .i64 tr, .int .i64 wt, .int .i64 le]) ∧ w' = V1) ∧
      BoxL W.drew (w.heap.size + 1 + 1) [.string nm, u] ∧ BoxL V1 (w.heap.size + 1 + 1) [.string nm, u] ∧ BoxL (V1.alloc (.cells #[.slice a n c, .int .i64 tr, .int .i64 wt, .int .i64 le] 46)) (w.heap.size + 1 + 1) [.string nm, u] ∧
      (Builtin.append_ #[22, 22] 22 #[u, .slice (some ⟨V1.heap.size, 0, none⟩) 1 1]).run Try.prog (V1.alloc (.cells #[.slice a n c, .int .i64 tr, .int .i64 wt, .int .i64 le] 46)) = .ok (.slice (some ⟨g, 0, none⟩) (j + 1) cap) V3 ∧ BoxL V3 (w.heap.size + 1 + 1) [.string nm, u] ∧
      RdGood w s nm P0 E0 (j + 1) (V3.setCell ⟨w.heap.size + 1 + 1, 1, none⟩ (.slice (some ⟨g, 0, none⟩) (j + 1) cap)) (.slice (some ⟨g, 0, none⟩) (j + 1) cap) (ts ++ [x]) := by
  obtain ⟨D, R, b0, hb, hp⟩ := h
  have hle := D.le
  have hlen : ts.length = j := by rw [← plainT_length, hp]; exact dgSt_len _ _ _ _
  obtain ⟨V1, a, c, hI, hF, R1, t1, hc⟩ := readTask_any w.heap.size (w.heap.size + 1 + 1 + 1) (w.heap.size + 1 + 1 + 1 + 1) s _ _ W.drew R.drew hz
  have D1 := D.drew.turns t1 (by rintro (h | h) <;> omega) (by rintro k (h | h) <;> omega)
  have b1 := boxL_turns (boxL_turns b0 ((Turns.refl (fun _ => False) W).drew) id) t1 (by rintro (h | h) <;> omega)
  obtain ⟨g, cap, V3, hrun, x3, D4, t4⟩ := D1.push ⟨a, c, (tkSt s (dgSt s P0 E0 j).p (dgSt s P0 E0 j).e).t.needs, (tkSt s (dgSt s P0 E0 j).p (dgSt s P0 E0 j).e).t.tries, (tkSt s (dgSt s P0 E0 j).p (dgSt s P0 E0 j).e).t.wait, (tkSt s (dgSt s P0 E0 j).p (dgSt s P0 E0 j).e).t.lease⟩ hI (fun _ y hy => by
      have hf : W.heap.size ≤ y.block := hF y hy
      refine ⟨by omega, fun e => ?_⟩
      have := (D.row.lt _ e).2
      omega) (by omega)
  rw [hlen] at hrun D4 t4
  have R4 := R1.turns t4 (by rintro (h | h) <;> omega) (by rintro (h | h) <;> omega) (by rintro (h | h) <;> omega)
  have b4 := boxL_turns b1 t4 (by rintro (h | h) <;> omega)
  exact ⟨g, cap, V1, V3, a, c, _, _, _, _, _, hc, D.drew.box, D1.box, D1.box.alloc _, hrun, x3, D4, R4, b4, Below.turns (Below.turns hb.drew t1 (by rintro k (h | h) <;> omega)) t4 (by rintro k (h | h) <;> omega), by
    show plainT (ts ++ [_]) = (dgSt s P0 E0 j).ts ++ [_]
    rw [← hp]; simp [plainT, TaskV.p]⟩

set_option maxRecDepth 20000 in
set_option maxHeartbeats 4000000 in
/-- READ. -/
theorem read_any (s : ByteArray) (w : World) (hz : s.size ≤ maxLen) :
    Calls Try.prog 35 #[.string s] w fun x w' => ∃ a c ts, x = .returned (.tuple #[.agg #[.string (cutS s 0), .slice a (dgF s).ts.length c], .int .i64 (dgF s).p, .int .i64 (dgF s).e]) ∧ plainT ts = (dgF s).ts ∧ IsT w' a c ts ∧ From w.heap.size a ∧ NeedsFrom w.heap.size ts ∧ Below w.heap.size w w' := by
  have cC := fun V => cut_any s 0 V hz
  obtain ⟨nm, hnm⟩ : ∃ nm, nm = cutS s 0 := ⟨_, rfl⟩
  obtain ⟨p0, hp0⟩ : ∃ p0, p0 = cutT s 0 := ⟨_, rfl⟩
  obtain ⟨e0, he0⟩ : ∃ e0, e0 = cutE s 0 := ⟨_, rfl⟩
  rw [← hnm, ← hp0, ← he0] at cC
  rw [← hnm]
  obtain ⟨W, hW⟩ : ∃ W, W = ((((w.alloc (.cells #[.string s] 9)).alloc (.cells #[.string ⟨#[]⟩, .slice none 0 0] 24)).alloc (.cells #[.string nm, .slice none 0 0] 24)).alloc (.cells #[.int .i64 p0] 3)).alloc (.cells #[.int .i64 e0] 27) := ⟨_, rfl⟩
  have hB0 : Below w.heap.size w W := by rw [hW]; exact (((((Below.refl _ _).alloc (Nat.le_refl _) _).alloc (by simp) _).alloc (by simp; omega) _).alloc (by simp; omega) _).alloc (by simp; omega) _
  have zW : W.heap.size = w.heap.size + 5 := by rw [hW]; simp
  have bR : BoxL W (w.heap.size + 1) [.string ⟨#[]⟩, .slice none 0 0] := by rw [hW]; exact (((boxL_new _ [.string ⟨#[]⟩, .slice none 0 0] _ (by simp)).alloc _).alloc _).alloc _
  have bD : BoxL W (w.heap.size + 1 + 1) [.string nm, .slice none 0 0] := by rw [hW]; exact ((boxL_new _ [.string nm, .slice none 0 0] _ (by simp)).alloc _).alloc _
  have bS : BoxL W w.heap.size [.string s] := by rw [hW]; exact ((((boxL_new _ [.string s] _ rfl).alloc _).alloc _).alloc _).alloc _
  have bP : BoxL W (w.heap.size + 1 + 1 + 1) [.int .i64 p0] := by rw [hW]; exact (boxL_new _ [.int .i64 p0] _ (by simp)).alloc _
  have bE : BoxL W (w.heap.size + 1 + 1 + 1 + 1) [.int .i64 e0] := by rw [hW]; exact boxL_new _ [.int .i64 e0] _ (by simp)
  have rW : NxAt W w.heap.size (w.heap.size + 1 + 1 + 1) (w.heap.size + 1 + 1 + 1 + 1) s p0 e0 := ⟨bS.1 0 _ rfl, bP.1 0 _ rfl, bE.1 0 _ rfl, bP.2 0 (by simp), bE.2 0 (by simp), by omega, by omega, by omega⟩
  obtain ⟨w1, r1, t1, s1, c0⟩ := nextD_any _ _ _ s p0 e0 1 W rW hz
  have D1 : DgAt w1 (w.heap.size + 1 + 1) (w.heap.size + 5) nm (.slice none 0 0) [] :=
    (⟨bD, World.ownsRow_nil _ _ _ _, off_nil _ _, fun t ht => by simp at ht, fun t ht => by simp at ht, by omega, by omega⟩ : DgAt W (w.heap.size + 1 + 1) (w.heap.size + 5) nm (.slice none 0 0) []).turns t1 (by rintro (h | h) <;> omega) (by rintro k (h | h) <;> omega)
  have b1 := boxL_turns bR t1 (by rintro (h | h) <;> omega)
  have hB1 : Below w.heap.size w w1 := Below.turns hB0 t1 (by rintro k (h | h) <;> omega)
  obtain ⟨K, hK⟩ : ∃ K, K = dgM s := ⟨_, rfl⟩
  have hK2 := (dgM_le s).2
  have hK255 : K ≤ 255 := by rw [hK]; exact (dgM_le s).1
  rw [← hK, ← hp0, ← he0] at hK2
  rw [hK2] at c0
  obtain ⟨P0, hP0⟩ : ∃ P0, P0 = gnP s p0 e0 1 := ⟨_, rfl⟩
  obtain ⟨E0, hE0⟩ : ∃ E0, E0 = gnE s p0 e0 1 := ⟨_, rfl⟩
  rw [← hP0, ← hE0] at r1
  have HF : dgF s = dgSt s P0 E0 K := by unfold dgF; rw [hK, hP0, hE0, hp0, he0]
  have HL : (dgF s).ts.length = K := by rw [HF]; exact dgSt_len _ _ _ _
  rw [HL]
  rw [HF]
  obtain ⟨PF, hPF⟩ : ∃ x, x = (dgSt s P0 E0 K).p := ⟨_, rfl⟩
  obtain ⟨EF, hEF⟩ : ∃ x, x = (dgSt s P0 E0 K).e := ⟨_, rfl⟩
  obtain ⟨TF, hTF⟩ : ∃ x, x = (dgSt s P0 E0 K).ts := ⟨_, rfl⟩
  rw [← hPF, ← hEF, ← hTF]
  have HPF : Hid (PF = (dgSt s P0 E0 K).p) := hPF
  have HEF : Hid (EF = (dgSt s P0 E0 K).e) := hEF
  have HTF : Hid (TF = (dgSt s P0 E0 K).ts) := hTF
  have G0 : Hid (RdGood w s nm P0 E0 0 w1 (.slice none 0 0) []) := ⟨D1, r1, b1, hB1, rfl⟩
  have HS : Hid (s.size ≤ maxLen) := hz
  clear hTF hPF hEF HF HL hE0 hP0 hK2 hK hB1 b1 D1 r1 t1 s1 rW bE bP bS bD bR hB0 zW hnm hp0 he0 hz
  go_enter Try.func35, Try.ntmps35
  have tok0 : True := trivial
  go_wp2_with (first
    | (go_at_call 46; refine (cC _).mono ?_; rintro x w' ⟨rfl, rfl⟩)
    | (go_at_call 47; rw [← hW]; refine c0.mono ?_; rintro x w' ⟨rfl, rfl⟩))
  clear c0 hW cC
  go_loopw [21] (fun v wr => ∃ (j : Nat) (u : Value) (ts : List TaskV), j ≤ K ∧ v = .int .i64 j ∧ Hid (RdGood w s nm P0 E0 j wr u ts)) (fun v _ => K - (intOf v).toNat)
  case atStart => exact ⟨0, _, _, by omega, rfl, G0⟩
  case round =>
    obtain ⟨j, u, ts, hj, rfl, HJ⟩ := hrel
    by_cases hlt : j < K
    · have hlt' : (j : Int) < K := by omega
      obtain ⟨g, cap, V1, V3, a, c, n, tr, wt, le, x, hcall3, x0, x1, x2, hrun5, x3, hst⟩ := rd_step HS.out (by omega) HJ.out
      obtain ⟨V0, hV0⟩ : ∃ V, V = wr.drew := ⟨_, rfl⟩
      rw [← hV0] at hcall3 x0
      have HV0 : Hid (V0 = wr.drew) := hV0
      obtain ⟨V4, hV4⟩ : ∃ V4, V4 = V3.setCell ⟨w.heap.size + 1 + 1, 1, none⟩ (.slice (some ⟨g, 0, none⟩) (j + 1) cap) := ⟨_, rfl⟩
      rw [← hV4] at hst
      have hst4 : Hid (V3.setCell ⟨w.heap.size + 1 + 1, 1, none⟩ (.slice (some ⟨g, 0, none⟩) (j + 1) cap) = V4) := hV4.symm
      have HN : Hid (RdGood w s nm P0 E0 (j + 1) V4 (.slice (some ⟨g, 0, none⟩) (j + 1) cap) (ts ++ [x])) := hst
      have q0 := x0.1 0 _ rfl
      have q1 := x0.1 1 _ rfl
      have q01 := x1.1 0 _ rfl
      have q11 := x1.1 1 _ rfl
      have q02 := x2.1 0 _ rfl
      have q12 := x2.1 1 _ rfl
      have q03 := x3.1 0 _ rfl
      have q13 := x3.1 1 _ rfl
      have f0 := x3.2 0 (by simp)
      have f1 := x3.2 1 (by simp)
      clear x0 x1 x2 x3 hst hV0 hV4 HJ G0 HPF HEF HTF
      go_wp2
      refine region_worlds (by kernel_rfl) [3, 4, 5, 7] (pushD (w.heap.size + 1 + 1) 1 (.func (.func 47) #[] #[.pointer (some ⟨w.heap.size + 1 + 1 + 1 + 1, 0, none⟩), .pointer (some ⟨w.heap.size, 0, none⟩), .pointer (some ⟨w.heap.size + 1 + 1 + 1, 0, none⟩)]) V1.heap.size g j cap u (.agg #[.slice a n c, .int .i64 tr, .int .i64 wt, .int .i64 le])) (worldsD V0 V1 (V1.alloc (.cells #[.slice a n c, .int .i64 tr, .int .i64 wt, .int .i64 le] 46)) V3 V4) (by kernel_rfl) (by kernel_rfl) HV0.out.symm ?step 8 rfl ?done
      case step =>
        intro i o ho kk a2 hkk hmay hdf hsz hdep hsame
        match i, ho with
        | 0, ho =>
          cases ho
          have h5 := (hsame 5 rfl)
          exact val_op rfl (wanted_free rfl) (by clear hdep hsame hsz hdf; (try simp only [pushD, worldsD]); go_simp) rfl rfl
        | 1, ho =>
          cases ho
          have h23 := (hdep 0 _ 23 rfl rfl rfl)
          simp only [pushD] at h23
          match kk, hkk, hmay with
          | 0, _, hq => first | (cases hq; done) | (exact val_op rfl (wanted_free rfl) (by clear hdep hsame hsz hdf; (try simp only [pushD, worldsD]); go_simp) rfl rfl)
          | 1, _, hq => first | (cases hq; done) | (exact val_op rfl (wanted_free rfl) (by clear hdep hsame hsz hdf; (try simp only [pushD, worldsD]); go_simp) rfl rfl)
          | 2, _, hq => first | (cases hq; done) | (exact val_op rfl (wanted_free rfl) (by clear hdep hsame hsz hdf; (try simp only [pushD, worldsD]); go_simp) rfl rfl)
          | 3, _, hq => first | (cases hq; done) | (exact val_op rfl (wanted_free rfl) (by clear hdep hsame hsz hdf; (try simp only [pushD, worldsD]); go_simp) rfl rfl)
          | 4, _, hq => first | (cases hq; done) | (exact val_op rfl (wanted_free rfl) (by clear hdep hsame hsz hdf; (try simp only [pushD, worldsD]); go_simp) rfl rfl)
          | kk + 5, hkk, _ => simp at hkk
        | 2, ho =>
          cases ho
          have h9 := (hsame 9 rfl)
          exact val_op rfl (wanted_free rfl) (by clear hdep hsame hsz hdf; (try simp only [pushD, worldsD]); go_simp) rfl rfl
        | 3, ho =>
          cases ho
          have h25 := (hdep 2 _ 25 rfl rfl rfl)
          simp only [pushD] at h25
          match kk, hkk, hmay with
          | 0, _, _ => exact val_call rfl (wanted_free rfl) (by clear hdep hsame hsz hdf; (try simp only [worldsD]); go_simp) (hcall3.mono fun e w hh => ⟨hh.1, hh.2⟩)
          | 1, _, hq => cases hq
          | 2, _, hq => cases hq
          | 3, _, hq => cases hq
          | 4, _, hq => cases hq
          | kk + 5, hkk, _ => simp at hkk
        | 4, ho =>
          cases ho
          have h26 := (hdep 3 _ 26 rfl rfl rfl)
          simp only [pushD] at h26
          match kk, hkk, hmay with
          | 0, _, hq => cases hq
          | 1, _, _ => exact val_op rfl (wanted_free rfl) (by clear hdep hsame hsz hdf; (try simp only [pushD, worldsD]); go_simp) rfl rfl
          | 2, _, hq => cases hq
          | 3, _, hq => cases hq
          | 4, _, hq => cases hq
          | kk + 5, hkk, _ => simp at hkk
        | 5, ho =>
          cases ho
          have h24 := eval_tmp (hdep 1 _ 24 rfl rfl rfl)
          have h27 := eval_tmp (hdep 4 _ 27 rfl rfl rfl)
          simp only [pushD] at h24 h27
          match kk, hkk, hmay with
          | 0, _, hq => cases hq
          | 1, _, hq => cases hq
          | 2, _, _ => exact val_append rfl (wanted_free rfl) rfl h24 h27 hrun5 rfl rfl
          | 3, _, hq => cases hq
          | 4, _, hq => cases hq
          | kk + 5, hkk, _ => simp at hkk
        | 6, ho =>
          cases ho
          have h5 := (hsame 5 rfl)
          exact val_op rfl (wanted_free rfl) (by clear hdep hsame hsz hdf; (try simp only [pushD, worldsD]); go_simp) rfl rfl
        | 7, ho =>
          cases ho
          have h29 := (hdep 6 _ 29 rfl rfl rfl)
          have h28 := (hdep 5 _ 28 rfl rfl rfl)
          simp only [pushD] at h29 h28
          match kk, hkk, hmay with
          | 0, _, hq => cases hq
          | 1, _, hq => cases hq
          | 2, _, hq => cases hq
          | 3, _, _ => exact val_skip rfl (wanted_free rfl) rfl (by clear hdep hsame hsz hdf; simp only [worldsD]; go_simp; try exact hst4.out) rfl
          | 4, _, hq => cases hq
          | kk + 5, hkk, _ => simp at hkk
        | kk + 8, ho => simp at ho
      case done =>
        simp [filledN, pushD, worldsD]
        clear q0 q1 q01 q11 q02 q12 q03 q13 f0 f1 hcall3 hrun5 hst4 HV0
        go_wp2
        go_roundw
        case rel => exact ⟨j + 1, _, _, by omega, by go_num, HN⟩
        case measure => simp [intOf]; omega
    · obtain rfl : K = j := by omega
      have hx : ¬ (K : Int) < K := by omega
      obtain ⟨D, R, b0, hb, hpl⟩ := HJ.out
      rw [← HPF.out, ← HEF.out] at R
      rw [← HTF.out] at hpl
      have hlen : ts.length = K := by rw [← plainT_length, hpl, HTF.out]; exact dgSt_len _ _ _ _
      have hrow := D.row
      rw [hlen] at hrow
      obtain ⟨a, c, rfl, hT, hF⟩ := owned_isT hrow hlen.symm D.nd
      have q0 := D.box.1 0 _ rfl
      have q1 := D.box.1 1 _ rfl
      have z0 := b0.1 0 _ rfl
      have z1 := b0.1 1 _ rfl
      have y0 := b0.2 0 (by simp)
      have y1 := b0.2 1 (by simp)
      have rp := R.p
      have re := R.e
      have k := boxL_turns ((b0.set 0 (.string nm)).set 1 (.slice a K c)) ((Turns.refl (fun _ => False) _).drew) id
      have tt : Turns (fun i => i = w.heap.size + 1) wr _ := (((Turns.refl (fun i => i = w.heap.size + 1) wr).setCell (p := ⟨w.heap.size + 1, 0, none⟩) rfl (.string nm)).setCell (p := ⟨w.heap.size + 1, 1, none⟩) rfl (.slice a K c)).drew
      have D' := D.turns tt (by omega) (by rintro k rfl; omega)
      have hrow' := D'.row
      rw [hlen] at hrow'
      obtain ⟨a', c', he', hT', -⟩ := owned_isT hrow' hlen.symm D'.nd
      obtain ⟨rfl, rfl⟩ : a = a' ∧ c = c' := by cases he'; exact ⟨rfl, rfl⟩
      have hb' := Below.turns hb tt (by rintro k rfl; omega)
      have HE : Hid (IsT _ a c ts ∧ NeedsFrom w.heap.size ts ∧ Below w.heap.size w _) := ⟨hT', fun t ht hne x hx => by have := (D.ap t ht hne x hx).1; omega, hb'⟩
      have k0 := k.1 0 _ rfl
      have k1 := k.1 1 _ rfl
      clear HJ HPF HEF HTF G0 hlen hrow D R b0 k tt D' hrow' he' hT' hb'
      go_wp2
      go_region
      go_wp2
      exact bodyPost_ret (v := .tuple #[.agg #[.string nm, .slice a K c], .int .i64 PF, .int .i64 EF]) (by simp [results, Try.results35, go_sem, k0, k1]) rfl ⟨a, c, ts, rfl, hpl, HE.out.1, hF.mono (by omega), HE.out.2⟩

end Go.Proofs.Ytmjhapkhfelbpaa

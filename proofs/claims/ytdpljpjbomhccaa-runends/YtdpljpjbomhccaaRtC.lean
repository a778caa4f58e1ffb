/-
  Texts laid together: RunOver TaskStand TaskRight RunOwnRight TaskExpire RunSettleW RunTold RunEndsP RunTellP DagRefFree DagLaw RunLike RunSaid RunRefHeld RunRefWith WaitRef TaskRefDo RunRefMend.
-/
import Derived.Test.YtdpljpjbomhccaaRtB
import Derived.Test.YtdpljpjbomhccaaRtA
import Derived.Lib.AppendZeros
import Derived.Maps.RangeWalk
namespace Go.Proofs.Ytdpljpjbomhccaa
open Go.RowKit Go.Shelf Plain Anylast
set_option linter.unusedVariables false
attribute [local go_sem] Oper.semAt_some
def overP (ss : List StP) (u : Int) (pre : List (Nat × StP)) : Option Nat := (pre.map (·.1)).foldl (stepO ss u) none
theorem overP_snoc (ss : List StP) (u : Int) (pre : List (Nat × StP)) (x : Nat × StP) : overP ss u (pre ++ [x]) = stepO ss u (overP ss u pre) x.1 := by
 unfold overP; rw [List.map_append, List.foldl_append]; rfl
theorem overP_to (ss : List StP) (u : Int) : ∀ k, k ≤ ss.length → overP ss u (candTo [2] ss k) = (List.range k).foldl (stepO ss u) none
 | 0, _ => rfl
 | k + 1, hk => by
  have ih := overP_to ss u k (by omega)
  obtain ⟨s, hs⟩ : ∃ s, ss[k]? = some s := ⟨_, List.getElem?_eq_getElem hk⟩
  rw [List.range_succ, List.foldl_append, ← ih]
  by_cases h : s.i ∈ [(2 : Int)]
  ·
   rw [candTo_yes hs h, overP_snoc]; rfl
  ·
   rw [candTo_no hs h]
   show _ = stepO ss u _ k
   unfold stepO
   rw [hs]
   have : ¬ (s.i = 2 ∧ s.d ≤ u) := fun hh => h (by simp [hh.1])
   simp only [if_neg this]
theorem overP_all (ss : List StP) (u : Int) : overP ss u (candL [2] ss) = overN ss u := overP_to ss u _ (Nat.le_refl _)
theorem overP_lt {ss : List StP} {u : Int} {pre : List (Nat × StP)} (h : ∀ x ∈ pre, x.1 < ss.length) {f : Nat} (hf : overP ss u pre = some f) : f < ss.length := by
 have gen : ∀ (l : List Nat) (o : Option Nat), (∀ x ∈ l, x < ss.length) → (∀ g, o = some g → g < ss.length) → ∀ g, l.foldl (stepO ss u) o = some g → g < ss.length := by
  intro l
  induction l with
  | nil => intro o _ ho g hg; exact ho g hg
  | cons a l ih =>
   intro o hl ho g hg
   refine ih (stepO ss u o a) (fun x hx => hl x (List.mem_cons_of_mem _ hx)) (fun g hg => ?_) g hg
   have ha := hl a (by simp)
   unfold stepO at hg
   split at hg
   ·
    split at hg
    ·
     split at hg
     ·
      cases hg; exact ha
     ·
      rename_i j
      split at hg
      ·
       split at hg
       ·
        cases hg; exact ha
       ·
        cases hg; exact ho _ rfl
      ·
       cases hg; exact ho _ rfl
    ·
     exact ho g hg
   ·
    exact ho g hg
 refine gen _ none (fun x hx => ?_) (fun g hg => by cases hg) f hf
 obtain ⟨y, hy, rfl⟩ := List.mem_map.1 hx
 exact h y hy
def oV1 (bx : Nat) (sd now u : Int) : Nat → Value
 | 0 => .pointer (some ⟨bx, 2, none⟩) | 1 => .int .i64 sd | 2 => .int .i64 now | 3 => .int .i64 u | 4 => .bool false | 5 => .bool false | 18 => .bool false | _ => undef
def oV2 (bx : Nat) (sd now u : Int) : Nat → Value
 | 0 => .pointer (some ⟨bx, 2, none⟩) | 1 => .int .i64 sd | 2 => .int .i64 now | 3 => .int .i64 u | 4 => .bool true | 5 => .bool true | 6 => .bool false | 7 => .bool true | 8 => .bool true | 17 => .bool true | 18 => .bool true | _ => undef
def oV3 (bx : Nat) (sd now u : Int) (b o n c f : Nat) (fd : Int) (q : Bool) : Nat → Value
 | 0 => .pointer (some ⟨bx, 2, none⟩) | 1 => .int .i64 sd | 2 => .int .i64 now | 3 => .int .i64 u | 4 => .bool true | 5 => .bool true | 6 => .bool true | 7 => .bool false | 8 => .bool false
 | 9 => .pointer (some ⟨bx, 2, none⟩) | 10 => .int .i64 sd | 11 => .slice (some ⟨b, o, none⟩) n c | 12 => .int .i64 f | 13 => .pointer (some ⟨b, o + f * 5, none⟩) | 14 => .pointer (some ⟨b, o + f * 5 + 2, none⟩) | 15 => .int .i64 fd | 16 => .bool q | 17 => .bool q | 18 => .bool q | _ => undef
set_option maxRecDepth 100000 in
set_option maxHeartbeats 4000000 in
theorem firstOver_any (sb so n sc : Nat) (ss : List StP) (now : Int) (w : World) (hZ : IsZ w (some ⟨sb, so, none⟩) sc ss) (hn : n = ss.length) (h0 : 0 < n) :
  Calls Try.prog 37 #[.slice (some ⟨sb, so, none⟩) n sc, .int .i64 now] w fun e w' => e = .returned (.tuple #[.int .i64 (((overN ss (untF now [])).getD 0 : Nat) : Int), .bool (overN ss (untF now [])).isSome]) ∧ Below w.heap.size w w' := by
 obtain ⟨u, hu⟩ : ∃ u, u = untF now [] := ⟨_, rfl⟩
 have cU := fun W => untN_any now W
 rw [← hu] at cU ⊢
 have hbl : sb < w.heap.size := hZ.lies (by omega) _ rfl
 obtain ⟨W0, hW0⟩ : ∃ W0, W0 = (((w.alloc (.cells #[.slice (some ⟨sb, so, none⟩) n sc] 25)).alloc (.cells #[.int .i64 now] 3)).alloc (.cells #[.int .i64 0] 3)).alloc (.cells #[.bool false] 4) := ⟨_, rfl⟩
 obtain ⟨W1, hW1⟩ : ∃ W1, W1 = ((W0.alloc (.cells #[.int .i64 2] 3)).alloc (.cells #[.slice (some ⟨sb, so, none⟩) n sc] 25)).alloc (.cells #[.slice (some ⟨w.heap.size + 1 + 1 + 1 + 1, 0, none⟩) 1 1] 48) := ⟨_, rfl⟩
 have hB0 : Below w.heap.size w W0 := by rw [hW0]; exact bel4 w _ _ _ _
 have hs0 : W0.heap.size = w.heap.size + 1 + 1 + 1 + 1 := by rw [hW0]; simp
 have hB1 : Below W0.heap.size W0 W1 := by rw [hW1]; exact bel3 W0 _ _ _
 have hs1 : W1.heap.size = w.heap.size + 7 := by rw [hW1]; simp [hs0]
 have bS : BoxL W1 w.heap.size [.slice (some ⟨sb, so, none⟩) n sc] := by
  have : BoxL W0 w.heap.size [.slice (some ⟨sb, so, none⟩) n sc] := by rw [hW0]; exact (((boxL_new w [.slice (some ⟨sb, so, none⟩) n sc] _ rfl).alloc _).alloc _).alloc _
  exact this.below hB1
 have bN : BoxL W1 (w.heap.size + 1) [.int .i64 now] := by
  have : BoxL W0 (w.heap.size + 1) [.int .i64 now] := by rw [hW0]; exact ((boxL_new (w.alloc (.cells #[.slice (some ⟨sb, so, none⟩) n sc] 25)) [.int .i64 now] _ (by simp)).alloc _).alloc _
  exact this.below hB1
 have bF0 : BoxL W0 (w.heap.size + 1 + 1) [.int .i64 0] := by rw [hW0]; exact (boxL_new ((w.alloc (.cells #[.slice (some ⟨sb, so, none⟩) n sc] 25)).alloc (.cells #[.int .i64 now] 3)) [.int .i64 0] _ (by simp)).alloc _
 have bO0 : BoxL W0 (w.heap.size + 1 + 1 + 1) [.bool false] := by rw [hW0]; exact boxL_new (((w.alloc (.cells #[.slice (some ⟨sb, so, none⟩) n sc] 25)).alloc (.cells #[.int .i64 now] 3)).alloc (.cells #[.int .i64 0] 3)) [.bool false] _ (by simp)
 have bF1 := bF0.below hB1
 have bO1 := bO0.below hB1
 have hBW : Below w.heap.size w W1 := Below.tr hB0 hB1
 have L : LoopT W1 (w.heap.size + 1 + 1 + 1 + 1 + 1) (w.heap.size + 1 + 1 + 1 + 1 + 1 + 1) (some ⟨sb, so, none⟩) n sc (some ⟨w.heap.size + 1 + 1 + 1 + 1, 0, none⟩) 1 1 [2] ss := by
  refine ⟨?_, ?_, ?_, hZ.below hBW, hn⟩
  ·
   rw [hW1]; exact cell_alloc (World.cell?_alloc_at _ _ _ _ (by simp [hs0])) _
  ·
   rw [hW1]; exact World.cell?_alloc_at _ _ _ _ (by simp [hs0])
  ·
   rw [hW1]
   have := isI_one W0 2
   rw [hs0] at this
   exact this.below (bel2 _ _ _)
 have hH := those1_hands (3 - 1) (by omega) (w.heap.size + 1 + 1 + 1 + 1 + 1) (w.heap.size + 1 + 1 + 1 + 1 + 1 + 1) (some ⟨sb, so, none⟩) n sc (some ⟨w.heap.size + 1 + 1 + 1 + 1, 0, none⟩) 1 1 [2] ss hn rfl W1
 have hnm : n ≤ 9223372036854775807 := by rw [hn]; exact hZ.size
 have hnc : n ≤ sc := by rw [hn]; exact hZ.1
 have hcm : sc ≤ 9223372036854775807 := hZ.2.1
 have HN : Hid (n = ss.length) := hn
 have hZ1 := hZ.below hBW
 have f0 : W0.cell? ⟨w.heap.size, 0, none⟩ = some (.slice (some ⟨sb, so, none⟩) n sc) := by rw [hW0]; exact cell_alloc (cell_alloc (cell_alloc (World.cell?_alloc_at _ _ _ _ rfl) _) _) _
 obtain ⟨FO, hFO⟩ : ∃ FO, FO = overN ss u := ⟨_, rfl⟩
 obtain ⟨FI, hFI⟩ : ∃ FI : Nat, FI = (overN ss u).getD 0 := ⟨_, rfl⟩
 obtain ⟨FB, hFB⟩ : ∃ FB, FB = (overN ss u).isSome := ⟨_, rfl⟩
 rw [← hFI, ← hFB]
 have HFI : Hid (FI = (overN ss u).getD 0) := hFI
 have HFB : Hid (FB = (overN ss u).isSome) := hFB
 clear hZ hn hFO hFI hFB hu hB1 hB0 bF0 bO0
 refine (callsIn_wide (n := 3)).1 ?_
 refine callsIn_of_wp_marks Try.func37 rfl trivial ?_ rfl
 simp only [Try.ntmps37, List.size_toArray, List.length_cons, List.length_nil, Nat.reduceAdd, Nat.reduceSub, Array.replicate_succ, Array.replicate_zero, List.push_toArray, List.append_toArray, List.nil_append, List.cons_append]
 rw [hW0] at f0
 gi_wp2_with (refine ⟨trivial, ?_⟩; gi_at_call 50; rw [← hW0]; refine (thoseR_any _ _ _ _ _ _ _ _).mono ?_; rintro e w3 ⟨rfl, rfl⟩)
 rw [← hW0, ← hW1]
 clear hW1 hW0 f0
 have tW : Turns (fun k => k = w.heap.size + 1 + 1 ∨ k = w.heap.size + 1 + 1 + 1) W1 W1 := Turns.refl _ _
 refine range_known rfl (enters_of Try.func84 (by kernel_rfl) rfl) hH (fun _ => rfl)
  (fun pre V => Turns (fun k => k = w.heap.size + 1 + 1 ∨ k = w.heap.size + 1 + 1 + 1 ∨ W1.heap.size ≤ k) W1 V ∧ BoxL V (w.heap.size + 1 + 1) [.int .i64 (((overP ss u pre).getD 0 : Nat) : Int)] ∧ BoxL V (w.heap.size + 1 + 1 + 1) [.bool (overP ss u pre).isSome])
  (fun _ _ _ => False)
  (ownFrom_turns fun s V V' h t => ⟨h.1.trans (t.mono fun k hk => .inr (.inr hk)), boxL_turns h.2.1 t (by omega), boxL_turns h.2.2 t (by omega)⟩)
  (fun _ _ _ _ _ h _ _ => h)
  (fun pre V h => L.good h.1 (by omega) (by omega) (fun _ x hx => by cases hx; show ¬ (w.heap.size + 1 + 1 + 1 + 1 = w.heap.size + 1 + 1 ∨ w.heap.size + 1 + 1 + 1 + 1 = w.heap.size + 1 + 1 + 1 ∨ W1.heap.size ≤ w.heap.size + 1 + 1 + 1 + 1); omega) (fun _ x hx => by cases hx; show ¬ (sb = w.heap.size + 1 + 1 ∨ sb = w.heap.size + 1 + 1 + 1 ∨ W1.heap.size ≤ sb); omega) pre)
  ⟨Turns.refl _ _, bF1, bO1⟩
  (fun x a' V => ∃ bx, W1.heap.size ≤ bx ∧ BoxL V bx [.int .i64 x.2.i, .int .i64 x.2.t, .int .i64 x.2.d, .int .i64 x.2.k, .string x.2.r] ∧ a' = { tmps := #[.slice (some ⟨sb, so, none⟩) n sc, .int .i64 now, .pointer (some ⟨w.heap.size, 0, none⟩), .pointer (some ⟨w.heap.size + 1, 0, none⟩), .pointer (some ⟨w.heap.size + 1 + 1, 0, none⟩), .pointer (some ⟨w.heap.size + 1 + 1 + 1, 0, none⟩), .int .i64 x.1, .pointer (some ⟨bx, 0, none⟩), .slice (some ⟨sb, so, none⟩) n sc, .slice (some ⟨w.heap.size + 1 + 1 + 1 + 1, 0, none⟩) 1 1, .func (.func 84) #[] #[.pointer (some ⟨w.heap.size + 1 + 1 + 1 + 1 + 1, 0, none⟩), .pointer (some ⟨w.heap.size + 1 + 1 + 1 + 1 + 1 + 1, 0, none⟩)], .int .i64 x.1, .agg #[.int .i64 x.2.i, .int .i64 x.2.t, .int .i64 x.2.d, .int .i64 x.2.k, .string x.2.r], undef, undef, undef, undef, undef, undef, undef, undef, undef, undef, undef, undef, undef, undef, undef, undef, undef, undef, undef, undef, undef, undef], defers := [] })
  (fun x a' s V V' row hs hg hr => by
   obtain ⟨bx, h1, h2, h3⟩ := hs
   exact ⟨bx, h1, boxL_kept h2 hg (fun r e => (hr r e).2), h3⟩) ?assign ?body ?done ?stop
 case assign =>
  rintro l pre x V K hi hpre hK
  dsimp only [encZ]
  obtain ⟨x1, i, t, d, k, r⟩ := x
  dsimp only at *
  gi_wp2
  refine hK _ _ (keeps_below ((Below.refl _ _).alloc (Nat.le_refl _) _)) ?_ ⟨V.heap.size, hi.1.size, boxL_new V _ _ rfl, rfl⟩
  exact ⟨hi.1.alloc _, hi.2.1.alloc _, hi.2.2.alloc _⟩
 case body =>
  rintro l pre x a' V ⟨t, bF, bO⟩ ⟨bx, h1, bX, rfl⟩ hpre
  obtain ⟨hx1, hx2, hpe⟩ := cand_next hpre
  have hxl := (List.getElem?_eq_some_iff.1 hx1).1
  have hlt : ∀ {f : Nat}, overP ss u pre = some f → f < ss.length := fun hf => overP_lt (fun y hy => by rw [hpe] at hy; have := candTo_lt hy; omega) hf
  have hnx0 := overP_snoc ss u pre x
  have hx2' : x.2.i = 2 := by simpa using hx2
  unfold stepO at hnx0
  rw [hx1] at hnx0
  simp only [hx2', true_and] at hnx0
  have bSV : BoxL V w.heap.size [.slice (some ⟨sb, so, none⟩) n sc] := boxL_turns bS t (show ¬ (w.heap.size = w.heap.size + 1 + 1 ∨ w.heap.size = w.heap.size + 1 + 1 + 1 ∨ W1.heap.size ≤ w.heap.size) by omega)
  have bNV : BoxL V (w.heap.size + 1) [.int .i64 now] := boxL_turns bN t (show ¬ (w.heap.size + 1 = w.heap.size + 1 + 1 ∨ w.heap.size + 1 = w.heap.size + 1 + 1 + 1 ∨ W1.heap.size ≤ w.heap.size + 1) by omega)
  have hZV : IsZ V (some ⟨sb, so, none⟩) sc ss := hZ1.turns t (fun x hx => by cases hx; show ¬ (sb = w.heap.size + 1 + 1 ∨ sb = w.heap.size + 1 + 1 + 1 ∨ W1.heap.size ≤ sb); omega)
  have g0 : V.drew.cell? ⟨w.heap.size, 0, none⟩ = some (.slice (some ⟨sb, so, none⟩) n sc) := bSV.1 0 _ rfl
  have g1 : V.drew.cell? ⟨w.heap.size + 1, 0, none⟩ = some (.int .i64 now) := bNV.1 0 _ rfl
  have g2 : V.drew.cell? ⟨bx, 2, none⟩ = some (.int .i64 x.2.d) := bX.1 2 _ rfl
  have e0 := bF.2 0 (by simp)
  have e1 := bO.2 0 (by simp)
  clear hx1 hx2 hx2' hpe hpre hxl
  obtain ⟨x1, si, st, sd, sk, sr⟩ := x
  dsimp only at *
  have hV1 : w.heap.size + 1 + 1 + 1 < W1.heap.size := by omega
  by_cases hd : sd ≤ u
  ·
   have hd1 : decide (sd ≤ u) = true := decide_eq_true hd
   rw [if_pos hd] at hnx0
   cases ho : overP ss u pre with
   | none =>
    rw [ho] at hnx0 bF bO
    have hnx : Hid (overP ss u (pre ++ [(x1, ⟨si, st, sd, sk, sr⟩)]) = some x1) := hnx0
    have g3 : V.drew.cell? ⟨w.heap.size + 1 + 1 + 1, 0, none⟩ = some (.bool false) := bO.1 0 _ rfl
    clear hnx0 ho hlt
    gi_wp2
    refine round_turns (by kernel_rfl) (by kernel_rfl) [] (oV2 bx sd now u) (fun _ X => X = V.drew) (by kernel_rfl) (by kernel_rfl) rfl ?step 19 rfl ?after
    case step =>
     intro i o ho kk a2 wX hkk hmay hS hdf hsz hdep hsame
     match i, ho with
     | 0, ho =>
      cases ho
      have h7 := hsame 7 rfl
      exact val_op rfl (wanted_free rfl) (by clear hdep hsame hsz hdf; (try simp only [oV2]); go_simp) rfl hS
     | 1, ho =>
      cases ho
      have h13 := hdep 0 _ 13 rfl rfl rfl
      simp only [oV2] at h13
      match kk, hkk, hmay, hS with
      | 0, _, hq, hS => first | (cases hq; done) | ((have hE : wX = V.drew := hS; subst hE); exact val_op rfl (wanted_free rfl) (by clear hdep hsame hsz hdf; (try simp only [oV2]); go_simp) rfl hS)
      | kk + 1, hkk, _, _ => simp at hkk
     | 2, ho =>
      cases ho
      have h3 := hsame 3 rfl
      match kk, hkk, hmay, hS with
      | 0, _, hq, hS => first | (cases hq; done) | ((have hE : wX = V.drew := hS; subst hE); exact val_op rfl (wanted_free rfl) (by clear hdep hsame hsz hdf; (try simp only [oV2]); go_simp) rfl hS)
      | kk + 1, hkk, _, _ => simp at hkk
     | 3, ho =>
      cases ho
      have h15 := hdep 2 _ 15 rfl rfl rfl
      simp only [oV2] at h15
      match kk, hkk, hmay, hS with
      | 0, _, hq, hS => first | (cases hq; done) | ((have hE : wX = V.drew := hS; subst hE); exact val_call rfl (wanted_free rfl) (by clear hdep hsame hsz hdf; (try simp only [oV2]); go_simp) ((cU _).mono fun e w2 hh => ⟨hh.1, hh.2.symm⟩))
      | kk + 1, hkk, _, _ => simp at hkk
     | 4, ho =>
      cases ho
      have h14 := hdep 1 _ 14 rfl rfl rfl
      have h16 := hdep 3 _ 16 rfl rfl rfl
      simp only [oV2] at h14 h16
      exact val_op rfl (wanted_free rfl) (by clear hdep hsame hsz hdf; (try simp only [oV2]); go_simp) rfl hS
     | 5, ho =>
      cases ho
      have h17 := hdep 4 _ 17 rfl rfl rfl
      simp only [oV2] at h17
      exact val_op rfl (wanted_free rfl) (by clear hdep hsame hsz hdf; (try simp only [oV2]); go_simp) rfl hS
     | 6, ho =>
      cases ho
      have h18 := hdep 5 _ 18 rfl rfl rfl
      have h5 := hsame 5 rfl
      simp only [oV2] at h18
      match kk, hkk, hmay, hS with
      | 0, _, hq, hS => first | (cases hq; done) | ((have hE : wX = V.drew := hS; subst hE); exact val_op rfl (wanted_by 5 true 18 rfl rfl h18) (by clear hdep hsame hsz hdf; (try simp only [oV2]); go_simp) rfl hS)
      | kk + 1, hkk, _, _ => simp at hkk
     | 7, ho =>
      cases ho
      have h18 := hdep 5 _ 18 rfl rfl rfl
      have h19 := hdep 6 _ 19 rfl rfl rfl
      simp only [oV2] at h18 h19
      exact val_op rfl (wanted_by 5 true 18 rfl rfl h18) (by clear hdep hsame hsz hdf; (try simp only [oV2]); go_simp) rfl hS
     | 8, ho =>
      cases ho
      have h18 := hdep 5 _ 18 rfl rfl rfl
      have h20 := hdep 7 _ 20 rfl rfl rfl
      simp only [oV2] at h18 h20
      exact val_op rfl (wanted_by 5 true 18 rfl rfl h18) (by clear hdep hsame hsz hdf; (try simp only [oV2]); go_simp) rfl hS
     | 9, ho =>
      cases ho
      have h21 := hdep 8 _ 21 rfl rfl rfl
      simp only [oV2] at h21
      exact val_left rfl (unwanted_by 8 false 21 rfl rfl h21) rfl hS
     | 10, ho =>
      cases ho
      have h21 := hdep 8 _ 21 rfl rfl rfl
      simp only [oV2] at h21
      exact val_left rfl (unwanted_by 8 false 21 rfl rfl h21) rfl hS
     | 11, ho =>
      cases ho
      have h21 := hdep 8 _ 21 rfl rfl rfl
      simp only [oV2] at h21
      exact val_left rfl (unwanted_by 8 false 21 rfl rfl h21) rfl hS
     | 12, ho =>
      cases ho
      have h21 := hdep 8 _ 21 rfl rfl rfl
      simp only [oV2] at h21
      exact val_left rfl (unwanted_by 8 false 21 rfl rfl h21) rfl hS
     | 13, ho =>
      cases ho
      have h21 := hdep 8 _ 21 rfl rfl rfl
      simp only [oV2] at h21
      exact val_left rfl (unwanted_by 8 false 21 rfl rfl h21) rfl hS
     | 14, ho =>
      cases ho
      have h21 := hdep 8 _ 21 rfl rfl rfl
      simp only [oV2] at h21
      exact val_left rfl (unwanted_by 8 false 21 rfl rfl h21) rfl hS
     | 15, ho =>
      cases ho
      have h21 := hdep 8 _ 21 rfl rfl rfl
      simp only [oV2] at h21
      exact val_left rfl (unwanted_by 8 false 21 rfl rfl h21) rfl hS
     | 16, ho =>
      cases ho
      have h21 := hdep 8 _ 21 rfl rfl rfl
      simp only [oV2] at h21
      exact val_left rfl (unwanted_by 8 false 21 rfl rfl h21) rfl hS
     | 17, ho =>
      cases ho
      have h18 := hdep 5 _ 18 rfl rfl rfl
      have h21 := hdep 8 _ 21 rfl rfl rfl
      have h29 := hdep 16 _ 29 rfl rfl rfl
      simp only [oV2] at h18 h21 h29
      exact val_op rfl (wanted_by 5 true 18 rfl rfl h18) (by clear hdep hsame hsz hdf; (try simp only [oV2]); go_simp) rfl hS
     | 18, ho =>
      cases ho
      have h18 := hdep 5 _ 18 rfl rfl rfl
      have h30 := hdep 17 _ 30 rfl rfl rfl
      simp only [oV2] at h18 h30
      exact val_op rfl (wanted_free rfl) (by clear hdep hsame hsz hdf; (try simp only [oV2]); go_simp) rfl hS
     | kk + 19, ho => simp at ho
    case after =>
     rintro V2 rfl
     simp [filledN, oV2]
     obtain ⟨X, hX⟩ : ∃ X, X = V.drew := ⟨_, rfl⟩
     have tX : Turns (fun k => k = w.heap.size + 1 + 1 ∨ k = w.heap.size + 1 + 1 + 1 ∨ W1.heap.size ≤ k) W1 X := by rw [hX]; exact t.drew
     have kX : KeepsFrom W1.heap.size V X := by rw [hX]; exact keeps_below (Below.refl _ _).drew
     have bXB : Below V.heap.size V X := by rw [hX]; exact (Below.refl _ _).drew
     have bFX := bF.below bXB
     have bOX := bO.below bXB
     have cF := bFX.1 0 _ rfl
     have cO := bOX.1 0 _ rfl
     have dF := bFX.2 0 (by simp)
     have dO := bOX.2 0 (by simp)
     rw [← hX]
     clear hX g0 g1 g2 g3 e0 e1
     gi_wp2
     refine ⟨?_, trivial, ?_, ?_, ?_⟩
     ·
      refine ⟨Nat.le_trans kX.size (by simp), fun k o hk1 hk2 hk3 => ?_⟩
      have tt : Turns (fun k => k = w.heap.size + 1 + 1 ∨ k = w.heap.size + 1 + 1 + 1) X ((X.setCell ⟨w.heap.size + 1 + 1, 0, none⟩ (.int .i64 x1)).setCell ⟨w.heap.size + 1 + 1 + 1, 0, none⟩ (.bool true)) := ((Turns.refl (fun k => k = w.heap.size + 1 + 1 ∨ k = w.heap.size + 1 + 1 + 1) X).setCell (p := ⟨w.heap.size + 1 + 1, 0, none⟩) (.inl rfl) _).setCell (p := ⟨w.heap.size + 1 + 1 + 1, 0, none⟩) (.inr rfl) _
      have h5 := kX.same k o hk1 hk2 hk3
      exact (tt.block k (Array.getElem?_eq_some_iff.1 h5).1 (by omega)).trans h5
     ·
      exact (tX.setCell (p := ⟨w.heap.size + 1 + 1, 0, none⟩) (.inl rfl) _).setCell (p := ⟨w.heap.size + 1 + 1 + 1, 0, none⟩) (.inr (.inl rfl)) _
     ·
      rw [hnx.out]; exact (bFX.set 0 _).off (by omega)
     ·
      rw [hnx.out]; exact (bOX.off (by omega)).set 0 _
   | some f =>
    have hfl := hlt ho
    rw [ho] at hnx0 bF bO
    obtain ⟨sf, hsf⟩ : ∃ sf, ss[f]? = some sf := ⟨_, List.getElem?_eq_getElem hfl⟩
    simp only at hnx0
    rw [hsf] at hnx0
    simp only at hnx0
    have hfn : f < n := by rw [HN.out]; exact hfl
    have hfn' : (f : Int) < n := by omega
    have g3 : V.drew.cell? ⟨w.heap.size + 1 + 1 + 1, 0, none⟩ = some (.bool true) := bO.1 0 _ rfl
    have g4 : V.drew.cell? ⟨w.heap.size + 1 + 1, 0, none⟩ = some (.int .i64 f) := bF.1 0 _ rfl
    have g5 : V.drew.cell? ⟨sb, so + f * 5 + 2, none⟩ = some (.int .i64 sf.d) := (hZV.at hsf).2.2.1
    obtain ⟨fd, hfd⟩ : ∃ fd, fd = sf.d := ⟨_, rfl⟩
    rw [← hfd] at g5 hnx0
    clear hfd hsf hlt
    by_cases hc : sd < fd
    ·
     have hc1 : decide (sd < fd) = true := decide_eq_true hc
     rw [if_pos hc] at hnx0
     have hnx : Hid (overP ss u (pre ++ [(x1, ⟨si, st, sd, sk, sr⟩)]) = some x1) := hnx0
     clear hnx0 ho
     gi_wp2
     refine round_turns (by kernel_rfl) (by kernel_rfl) [] (oV3 bx sd now u sb so n sc f fd true) (fun _ X => X = V.drew) (by kernel_rfl) (by kernel_rfl) rfl ?step 19 rfl ?after
     case step =>
      intro i o ho kk a2 wX hkk hmay hS hdf hsz hdep hsame
      match i, ho with
      | 0, ho =>
       cases ho
       have h7 := hsame 7 rfl
       exact val_op rfl (wanted_free rfl) (by clear hdep hsame hsz hdf; (try simp only [oV3]); go_simp) rfl hS
      | 1, ho =>
       cases ho
       have h13 := hdep 0 _ 13 rfl rfl rfl
       simp only [oV3] at h13
       match kk, hkk, hmay, hS with
       | 0, _, hq, hS => first | (cases hq; done) | ((have hE : wX = V.drew := hS; subst hE); exact val_op rfl (wanted_free rfl) (by clear hdep hsame hsz hdf; (try simp only [oV3]); go_simp) rfl hS)
       | kk + 1, hkk, _, _ => simp at hkk
      | 2, ho =>
       cases ho
       have h3 := hsame 3 rfl
       match kk, hkk, hmay, hS with
       | 0, _, hq, hS => first | (cases hq; done) | ((have hE : wX = V.drew := hS; subst hE); exact val_op rfl (wanted_free rfl) (by clear hdep hsame hsz hdf; (try simp only [oV3]); go_simp) rfl hS)
       | kk + 1, hkk, _, _ => simp at hkk
      | 3, ho =>
       cases ho
       have h15 := hdep 2 _ 15 rfl rfl rfl
       simp only [oV3] at h15
       match kk, hkk, hmay, hS with
       | 0, _, hq, hS => first | (cases hq; done) | ((have hE : wX = V.drew := hS; subst hE); exact val_call rfl (wanted_free rfl) (by clear hdep hsame hsz hdf; (try simp only [oV3]); go_simp) ((cU _).mono fun e w2 hh => ⟨hh.1, hh.2.symm⟩))
       | kk + 1, hkk, _, _ => simp at hkk
      | 4, ho =>
       cases ho
       have h14 := hdep 1 _ 14 rfl rfl rfl
       have h16 := hdep 3 _ 16 rfl rfl rfl
       simp only [oV3] at h14 h16
       exact val_op rfl (wanted_free rfl) (by clear hdep hsame hsz hdf; (try simp only [oV3]); go_simp) rfl hS
      | 5, ho =>
       cases ho
       have h17 := hdep 4 _ 17 rfl rfl rfl
       simp only [oV3] at h17
       exact val_op rfl (wanted_free rfl) (by clear hdep hsame hsz hdf; (try simp only [oV3]); go_simp) rfl hS
      | 6, ho =>
       cases ho
       have h18 := hdep 5 _ 18 rfl rfl rfl
       have h5 := hsame 5 rfl
       simp only [oV3] at h18
       match kk, hkk, hmay, hS with
       | 0, _, hq, hS => first | (cases hq; done) | ((have hE : wX = V.drew := hS; subst hE); exact val_op rfl (wanted_by 5 true 18 rfl rfl h18) (by clear hdep hsame hsz hdf; (try simp only [oV3]); go_simp) rfl hS)
       | kk + 1, hkk, _, _ => simp at hkk
      | 7, ho =>
       cases ho
       have h18 := hdep 5 _ 18 rfl rfl rfl
       have h19 := hdep 6 _ 19 rfl rfl rfl
       simp only [oV3] at h18 h19
       exact val_op rfl (wanted_by 5 true 18 rfl rfl h18) (by clear hdep hsame hsz hdf; (try simp only [oV3]); go_simp) rfl hS
      | 8, ho =>
       cases ho
       have h18 := hdep 5 _ 18 rfl rfl rfl
       have h20 := hdep 7 _ 20 rfl rfl rfl
       simp only [oV3] at h18 h20
       exact val_op rfl (wanted_by 5 true 18 rfl rfl h18) (by clear hdep hsame hsz hdf; (try simp only [oV3]); go_simp) rfl hS
      | 9, ho =>
       cases ho
       have h21 := hdep 8 _ 21 rfl rfl rfl
       have h7 := hsame 7 rfl
       simp only [oV3] at h21
       exact val_op rfl (wanted_by 8 false 21 rfl rfl h21) (by clear hdep hsame hsz hdf; (try simp only [oV3]); go_simp) rfl hS
      | 10, ho =>
       cases ho
       have h21 := hdep 8 _ 21 rfl rfl rfl
       have h22 := hdep 9 _ 22 rfl rfl rfl
       simp only [oV3] at h21 h22
       match kk, hkk, hmay, hS with
       | 0, _, hq, hS => first | (cases hq; done) | ((have hE : wX = V.drew := hS; subst hE); exact val_op rfl (wanted_by 8 false 21 rfl rfl h21) (by clear hdep hsame hsz hdf; (try simp only [oV3]); go_simp) rfl hS)
       | kk + 1, hkk, _, _ => simp at hkk
      | 11, ho =>
       cases ho
       have h21 := hdep 8 _ 21 rfl rfl rfl
       have h2 := hsame 2 rfl
       simp only [oV3] at h21
       match kk, hkk, hmay, hS with
       | 0, _, hq, hS => first | (cases hq; done) | ((have hE : wX = V.drew := hS; subst hE); exact val_op rfl (wanted_by 8 false 21 rfl rfl h21) (by clear hdep hsame hsz hdf; (try simp only [oV3]); go_simp) rfl hS)
       | kk + 1, hkk, _, _ => simp at hkk
      | 12, ho =>
       cases ho
       have h21 := hdep 8 _ 21 rfl rfl rfl
       have h4 := hsame 4 rfl
       simp only [oV3] at h21
       match kk, hkk, hmay, hS with
       | 0, _, hq, hS => first | (cases hq; done) | ((have hE : wX = V.drew := hS; subst hE); exact val_op rfl (wanted_by 8 false 21 rfl rfl h21) (by clear hdep hsame hsz hdf; (try simp only [oV3]); go_simp) rfl hS)
       | kk + 1, hkk, _, _ => simp at hkk
      | 13, ho =>
       cases ho
       have h21 := hdep 8 _ 21 rfl rfl rfl
       have h24 := hdep 11 _ 24 rfl rfl rfl
       have h25 := hdep 12 _ 25 rfl rfl rfl
       simp only [oV3] at h21 h24 h25
       exact val_op rfl (wanted_by 8 false 21 rfl rfl h21) (by clear hdep hsame hsz hdf; (try simp only [oV3]); go_simp) rfl hS
      | 14, ho =>
       cases ho
       have h21 := hdep 8 _ 21 rfl rfl rfl
       have h26 := hdep 13 _ 26 rfl rfl rfl
       simp only [oV3] at h21 h26
       exact val_op rfl (wanted_by 8 false 21 rfl rfl h21) (by clear hdep hsame hsz hdf; (try simp only [oV3]); go_simp) rfl hS
      | 15, ho =>
       cases ho
       have h21 := hdep 8 _ 21 rfl rfl rfl
       have h27 := hdep 14 _ 27 rfl rfl rfl
       simp only [oV3] at h21 h27
       match kk, hkk, hmay, hS with
       | 0, _, hq, hS => first | (cases hq; done) | ((have hE : wX = V.drew := hS; subst hE); exact val_op rfl (wanted_by 8 false 21 rfl rfl h21) (by clear hdep hsame hsz hdf; (try simp only [oV3]); go_simp) rfl hS)
       | kk + 1, hkk, _, _ => simp at hkk
      | 16, ho =>
       cases ho
       have h21 := hdep 8 _ 21 rfl rfl rfl
       have h23 := hdep 10 _ 23 rfl rfl rfl
       have h28 := hdep 15 _ 28 rfl rfl rfl
       simp only [oV3] at h21 h23 h28
       exact val_op rfl (wanted_by 8 false 21 rfl rfl h21) (by clear hdep hsame hsz hdf; (try simp only [oV3]); go_simp) rfl hS
      | 17, ho =>
       cases ho
       have h18 := hdep 5 _ 18 rfl rfl rfl
       have h21 := hdep 8 _ 21 rfl rfl rfl
       have h29 := hdep 16 _ 29 rfl rfl rfl
       simp only [oV3] at h18 h21 h29
       exact val_op rfl (wanted_by 5 true 18 rfl rfl h18) (by clear hdep hsame hsz hdf; (try simp only [oV3]); go_simp) rfl hS
      | 18, ho =>
       cases ho
       have h18 := hdep 5 _ 18 rfl rfl rfl
       have h30 := hdep 17 _ 30 rfl rfl rfl
       simp only [oV3] at h18 h30
       exact val_op rfl (wanted_free rfl) (by clear hdep hsame hsz hdf; (try simp only [oV3]); go_simp) rfl hS
      | kk + 19, ho => simp at ho
     case after =>
      rintro V2 rfl
      simp [filledN, oV3]
      clear g4 g5
      obtain ⟨X, hX⟩ : ∃ X, X = V.drew := ⟨_, rfl⟩
      have tX : Turns (fun k => k = w.heap.size + 1 + 1 ∨ k = w.heap.size + 1 + 1 + 1 ∨ W1.heap.size ≤ k) W1 X := by rw [hX]; exact t.drew
      have kX : KeepsFrom W1.heap.size V X := by rw [hX]; exact keeps_below (Below.refl _ _).drew
      have bXB : Below V.heap.size V X := by rw [hX]; exact (Below.refl _ _).drew
      have bFX := bF.below bXB
      have bOX := bO.below bXB
      have cF := bFX.1 0 _ rfl
      have cO := bOX.1 0 _ rfl
      have dF := bFX.2 0 (by simp)
      have dO := bOX.2 0 (by simp)
      rw [← hX]
      clear hX g0 g1 g2 g3 e0 e1
      gi_wp2
      refine ⟨?_, trivial, ?_, ?_, ?_⟩
      ·
       refine ⟨Nat.le_trans kX.size (by simp), fun k o hk1 hk2 hk3 => ?_⟩
       have tt : Turns (fun k => k = w.heap.size + 1 + 1 ∨ k = w.heap.size + 1 + 1 + 1) X ((X.setCell ⟨w.heap.size + 1 + 1, 0, none⟩ (.int .i64 x1)).setCell ⟨w.heap.size + 1 + 1 + 1, 0, none⟩ (.bool true)) := ((Turns.refl (fun k => k = w.heap.size + 1 + 1 ∨ k = w.heap.size + 1 + 1 + 1) X).setCell (p := ⟨w.heap.size + 1 + 1, 0, none⟩) (.inl rfl) _).setCell (p := ⟨w.heap.size + 1 + 1 + 1, 0, none⟩) (.inr rfl) _
       have h5 := kX.same k o hk1 hk2 hk3
       exact (tt.block k (Array.getElem?_eq_some_iff.1 h5).1 (by omega)).trans h5
      ·
       exact (tX.setCell (p := ⟨w.heap.size + 1 + 1, 0, none⟩) (.inl rfl) _).setCell (p := ⟨w.heap.size + 1 + 1 + 1, 0, none⟩) (.inr (.inl rfl)) _
      ·
       rw [hnx.out]; exact (bFX.set 0 _).off (by omega)
      ·
       rw [hnx.out]; exact (bOX.off (by omega)).set 0 _
    ·
     have hc1 : decide (sd < fd) = false := decide_eq_false hc
     rw [if_neg hc] at hnx0
     have hnx : Hid (overP ss u (pre ++ [(x1, ⟨si, st, sd, sk, sr⟩)]) = some f) := hnx0
     clear hnx0 ho
     gi_wp2
     refine round_turns (by kernel_rfl) (by kernel_rfl) [] (oV3 bx sd now u sb so n sc f fd false) (fun _ X => X = V.drew) (by kernel_rfl) (by kernel_rfl) rfl ?step 19 rfl ?after
     case step =>
      intro i o ho kk a2 wX hkk hmay hS hdf hsz hdep hsame
      match i, ho with
      | 0, ho =>
       cases ho
       have h7 := hsame 7 rfl
       exact val_op rfl (wanted_free rfl) (by clear hdep hsame hsz hdf; (try simp only [oV3]); go_simp) rfl hS
      | 1, ho =>
       cases ho
       have h13 := hdep 0 _ 13 rfl rfl rfl
       simp only [oV3] at h13
       match kk, hkk, hmay, hS with
       | 0, _, hq, hS => first | (cases hq; done) | ((have hE : wX = V.drew := hS; subst hE); exact val_op rfl (wanted_free rfl) (by clear hdep hsame hsz hdf; (try simp only [oV3]); go_simp) rfl hS)
       | kk + 1, hkk, _, _ => simp at hkk
      | 2, ho =>
       cases ho
       have h3 := hsame 3 rfl
       match kk, hkk, hmay, hS with
       | 0, _, hq, hS => first | (cases hq; done) | ((have hE : wX = V.drew := hS; subst hE); exact val_op rfl (wanted_free rfl) (by clear hdep hsame hsz hdf; (try simp only [oV3]); go_simp) rfl hS)
       | kk + 1, hkk, _, _ => simp at hkk
      | 3, ho =>
       cases ho
       have h15 := hdep 2 _ 15 rfl rfl rfl
       simp only [oV3] at h15
       match kk, hkk, hmay, hS with
       | 0, _, hq, hS => first | (cases hq; done) | ((have hE : wX = V.drew := hS; subst hE); exact val_call rfl (wanted_free rfl) (by clear hdep hsame hsz hdf; (try simp only [oV3]); go_simp) ((cU _).mono fun e w2 hh => ⟨hh.1, hh.2.symm⟩))
       | kk + 1, hkk, _, _ => simp at hkk
      | 4, ho =>
       cases ho
       have h14 := hdep 1 _ 14 rfl rfl rfl
       have h16 := hdep 3 _ 16 rfl rfl rfl
       simp only [oV3] at h14 h16
       exact val_op rfl (wanted_free rfl) (by clear hdep hsame hsz hdf; (try simp only [oV3]); go_simp) rfl hS
      | 5, ho =>
       cases ho
       have h17 := hdep 4 _ 17 rfl rfl rfl
       simp only [oV3] at h17
       exact val_op rfl (wanted_free rfl) (by clear hdep hsame hsz hdf; (try simp only [oV3]); go_simp) rfl hS
      | 6, ho =>
       cases ho
       have h18 := hdep 5 _ 18 rfl rfl rfl
       have h5 := hsame 5 rfl
       simp only [oV3] at h18
       match kk, hkk, hmay, hS with
       | 0, _, hq, hS => first | (cases hq; done) | ((have hE : wX = V.drew := hS; subst hE); exact val_op rfl (wanted_by 5 true 18 rfl rfl h18) (by clear hdep hsame hsz hdf; (try simp only [oV3]); go_simp) rfl hS)
       | kk + 1, hkk, _, _ => simp at hkk
      | 7, ho =>
       cases ho
       have h18 := hdep 5 _ 18 rfl rfl rfl
       have h19 := hdep 6 _ 19 rfl rfl rfl
       simp only [oV3] at h18 h19
       exact val_op rfl (wanted_by 5 true 18 rfl rfl h18) (by clear hdep hsame hsz hdf; (try simp only [oV3]); go_simp) rfl hS
      | 8, ho =>
       cases ho
       have h18 := hdep 5 _ 18 rfl rfl rfl
       have h20 := hdep 7 _ 20 rfl rfl rfl
       simp only [oV3] at h18 h20
       exact val_op rfl (wanted_by 5 true 18 rfl rfl h18) (by clear hdep hsame hsz hdf; (try simp only [oV3]); go_simp) rfl hS
      | 9, ho =>
       cases ho
       have h21 := hdep 8 _ 21 rfl rfl rfl
       have h7 := hsame 7 rfl
       simp only [oV3] at h21
       exact val_op rfl (wanted_by 8 false 21 rfl rfl h21) (by clear hdep hsame hsz hdf; (try simp only [oV3]); go_simp) rfl hS
      | 10, ho =>
       cases ho
       have h21 := hdep 8 _ 21 rfl rfl rfl
       have h22 := hdep 9 _ 22 rfl rfl rfl
       simp only [oV3] at h21 h22
       match kk, hkk, hmay, hS with
       | 0, _, hq, hS => first | (cases hq; done) | ((have hE : wX = V.drew := hS; subst hE); exact val_op rfl (wanted_by 8 false 21 rfl rfl h21) (by clear hdep hsame hsz hdf; (try simp only [oV3]); go_simp) rfl hS)
       | kk + 1, hkk, _, _ => simp at hkk
      | 11, ho =>
       cases ho
       have h21 := hdep 8 _ 21 rfl rfl rfl
       have h2 := hsame 2 rfl
       simp only [oV3] at h21
       match kk, hkk, hmay, hS with
       | 0, _, hq, hS => first | (cases hq; done) | ((have hE : wX = V.drew := hS; subst hE); exact val_op rfl (wanted_by 8 false 21 rfl rfl h21) (by clear hdep hsame hsz hdf; (try simp only [oV3]); go_simp) rfl hS)
       | kk + 1, hkk, _, _ => simp at hkk
      | 12, ho =>
       cases ho
       have h21 := hdep 8 _ 21 rfl rfl rfl
       have h4 := hsame 4 rfl
       simp only [oV3] at h21
       match kk, hkk, hmay, hS with
       | 0, _, hq, hS => first | (cases hq; done) | ((have hE : wX = V.drew := hS; subst hE); exact val_op rfl (wanted_by 8 false 21 rfl rfl h21) (by clear hdep hsame hsz hdf; (try simp only [oV3]); go_simp) rfl hS)
       | kk + 1, hkk, _, _ => simp at hkk
      | 13, ho =>
       cases ho
       have h21 := hdep 8 _ 21 rfl rfl rfl
       have h24 := hdep 11 _ 24 rfl rfl rfl
       have h25 := hdep 12 _ 25 rfl rfl rfl
       simp only [oV3] at h21 h24 h25
       exact val_op rfl (wanted_by 8 false 21 rfl rfl h21) (by clear hdep hsame hsz hdf; (try simp only [oV3]); go_simp) rfl hS
      | 14, ho =>
       cases ho
       have h21 := hdep 8 _ 21 rfl rfl rfl
       have h26 := hdep 13 _ 26 rfl rfl rfl
       simp only [oV3] at h21 h26
       exact val_op rfl (wanted_by 8 false 21 rfl rfl h21) (by clear hdep hsame hsz hdf; (try simp only [oV3]); go_simp) rfl hS
      | 15, ho =>
       cases ho
       have h21 := hdep 8 _ 21 rfl rfl rfl
       have h27 := hdep 14 _ 27 rfl rfl rfl
       simp only [oV3] at h21 h27
       match kk, hkk, hmay, hS with
       | 0, _, hq, hS => first | (cases hq; done) | ((have hE : wX = V.drew := hS; subst hE); exact val_op rfl (wanted_by 8 false 21 rfl rfl h21) (by clear hdep hsame hsz hdf; (try simp only [oV3]); go_simp) rfl hS)
       | kk + 1, hkk, _, _ => simp at hkk
      | 16, ho =>
       cases ho
       have h21 := hdep 8 _ 21 rfl rfl rfl
       have h23 := hdep 10 _ 23 rfl rfl rfl
       have h28 := hdep 15 _ 28 rfl rfl rfl
       simp only [oV3] at h21 h23 h28
       exact val_op rfl (wanted_by 8 false 21 rfl rfl h21) (by clear hdep hsame hsz hdf; (try simp only [oV3]); go_simp) rfl hS
      | 17, ho =>
       cases ho
       have h18 := hdep 5 _ 18 rfl rfl rfl
       have h21 := hdep 8 _ 21 rfl rfl rfl
       have h29 := hdep 16 _ 29 rfl rfl rfl
       simp only [oV3] at h18 h21 h29
       exact val_op rfl (wanted_by 5 true 18 rfl rfl h18) (by clear hdep hsame hsz hdf; (try simp only [oV3]); go_simp) rfl hS
      | 18, ho =>
       cases ho
       have h18 := hdep 5 _ 18 rfl rfl rfl
       have h30 := hdep 17 _ 30 rfl rfl rfl
       simp only [oV3] at h18 h30
       exact val_op rfl (wanted_free rfl) (by clear hdep hsame hsz hdf; (try simp only [oV3]); go_simp) rfl hS
      | kk + 19, ho => simp at ho
     case after =>
      rintro V2 rfl
      simp [filledN, oV3]
      gi_wp2
      refine ⟨keeps_below (Below.refl _ _).drew, trivial, t.drew, ?_, ?_⟩
      ·
       rw [hnx.out]; exact bF
      ·
       rw [hnx.out]; exact bO
  ·
   have hd1 : decide (sd ≤ u) = false := decide_eq_false hd
   rw [if_neg hd] at hnx0
   have hnx : Hid (overP ss u (pre ++ [(x1, ⟨si, st, sd, sk, sr⟩)]) = overP ss u pre) := hnx0
   clear hnx0 hlt
   gi_wp2
   refine round_turns (by kernel_rfl) (by kernel_rfl) [] (oV1 bx sd now u) (fun _ X => X = V.drew) (by kernel_rfl) (by kernel_rfl) rfl ?step 19 rfl ?after
   case step =>
    intro i o ho kk a2 wX hkk hmay hS hdf hsz hdep hsame
    match i, ho with
    | 0, ho =>
     cases ho
     have h7 := hsame 7 rfl
     exact val_op rfl (wanted_free rfl) (by clear hdep hsame hsz hdf; (try simp only [oV1]); go_simp) rfl hS
    | 1, ho =>
     cases ho
     have h13 := hdep 0 _ 13 rfl rfl rfl
     simp only [oV1] at h13
     match kk, hkk, hmay, hS with
     | 0, _, hq, hS => first | (cases hq; done) | ((have hE : wX = V.drew := hS; subst hE); exact val_op rfl (wanted_free rfl) (by clear hdep hsame hsz hdf; (try simp only [oV1]); go_simp) rfl hS)
     | kk + 1, hkk, _, _ => simp at hkk
    | 2, ho =>
     cases ho
     have h3 := hsame 3 rfl
     match kk, hkk, hmay, hS with
     | 0, _, hq, hS => first | (cases hq; done) | ((have hE : wX = V.drew := hS; subst hE); exact val_op rfl (wanted_free rfl) (by clear hdep hsame hsz hdf; (try simp only [oV1]); go_simp) rfl hS)
     | kk + 1, hkk, _, _ => simp at hkk
    | 3, ho =>
     cases ho
     have h15 := hdep 2 _ 15 rfl rfl rfl
     simp only [oV1] at h15
     match kk, hkk, hmay, hS with
     | 0, _, hq, hS => first | (cases hq; done) | ((have hE : wX = V.drew := hS; subst hE); exact val_call rfl (wanted_free rfl) (by clear hdep hsame hsz hdf; (try simp only [oV1]); go_simp) ((cU _).mono fun e w2 hh => ⟨hh.1, hh.2.symm⟩))
     | kk + 1, hkk, _, _ => simp at hkk
    | 4, ho =>
     cases ho
     have h14 := hdep 1 _ 14 rfl rfl rfl
     have h16 := hdep 3 _ 16 rfl rfl rfl
     simp only [oV1] at h14 h16
     exact val_op rfl (wanted_free rfl) (by clear hdep hsame hsz hdf; (try simp only [oV1]); go_simp) rfl hS
    | 5, ho =>
     cases ho
     have h17 := hdep 4 _ 17 rfl rfl rfl
     simp only [oV1] at h17
     exact val_op rfl (wanted_free rfl) (by clear hdep hsame hsz hdf; (try simp only [oV1]); go_simp) rfl hS
    | 6, ho =>
     cases ho
     have h18 := hdep 5 _ 18 rfl rfl rfl
     simp only [oV1] at h18
     exact val_left rfl (unwanted_by 5 true 18 rfl rfl h18) rfl hS
    | 7, ho =>
     cases ho
     have h18 := hdep 5 _ 18 rfl rfl rfl
     simp only [oV1] at h18
     exact val_left rfl (unwanted_by 5 true 18 rfl rfl h18) rfl hS
    | 8, ho =>
     cases ho
     have h18 := hdep 5 _ 18 rfl rfl rfl
     simp only [oV1] at h18
     exact val_left rfl (unwanted_by 5 true 18 rfl rfl h18) rfl hS
    | 9, ho =>
     cases ho
     have h21 := hdep 8 _ 21 rfl rfl rfl
     simp only [oV1] at h21
     exact val_left rfl (unwanted_undef 8 false 21 rfl rfl h21) rfl hS
    | 10, ho =>
     cases ho
     have h21 := hdep 8 _ 21 rfl rfl rfl
     simp only [oV1] at h21
     exact val_left rfl (unwanted_undef 8 false 21 rfl rfl h21) rfl hS
    | 11, ho =>
     cases ho
     have h21 := hdep 8 _ 21 rfl rfl rfl
     simp only [oV1] at h21
     exact val_left rfl (unwanted_undef 8 false 21 rfl rfl h21) rfl hS
    | 12, ho =>
     cases ho
     have h21 := hdep 8 _ 21 rfl rfl rfl
     simp only [oV1] at h21
     exact val_left rfl (unwanted_undef 8 false 21 rfl rfl h21) rfl hS
    | 13, ho =>
     cases ho
     have h21 := hdep 8 _ 21 rfl rfl rfl
     simp only [oV1] at h21
     exact val_left rfl (unwanted_undef 8 false 21 rfl rfl h21) rfl hS
    | 14, ho =>
     cases ho
     have h21 := hdep 8 _ 21 rfl rfl rfl
     simp only [oV1] at h21
     exact val_left rfl (unwanted_undef 8 false 21 rfl rfl h21) rfl hS
    | 15, ho =>
     cases ho
     have h21 := hdep 8 _ 21 rfl rfl rfl
     simp only [oV1] at h21
     exact val_left rfl (unwanted_undef 8 false 21 rfl rfl h21) rfl hS
    | 16, ho =>
     cases ho
     have h21 := hdep 8 _ 21 rfl rfl rfl
     simp only [oV1] at h21
     exact val_left rfl (unwanted_undef 8 false 21 rfl rfl h21) rfl hS
    | 17, ho =>
     cases ho
     have h18 := hdep 5 _ 18 rfl rfl rfl
     simp only [oV1] at h18
     exact val_left rfl (unwanted_by 5 true 18 rfl rfl h18) rfl hS
    | 18, ho =>
     cases ho
     have h18 := hdep 5 _ 18 rfl rfl rfl
     have h30 := hdep 17 _ 30 rfl rfl rfl
     simp only [oV1] at h18 h30
     exact val_op rfl (wanted_free rfl) (by clear hdep hsame hsz hdf; (try simp only [oV1]); go_simp) rfl hS
    | kk + 19, ho => simp at ho
   case after =>
    rintro V2 rfl
    simp [filledN, oV1]
    gi_wp2
    refine ⟨keeps_below (Below.refl _ _).drew, trivial, t.drew, ?_, ?_⟩
    ·
     rw [hnx.out]; exact bF
    ·
     rw [hnx.out]; exact bO
 case done =>
  rintro D V hD ⟨t, bF, bO⟩ hK
  have hDl := (Array.getElem?_eq_some_iff.1 hK).1
  rw [overP_all] at bF bO
  rw [← HFI.out] at bF
  rw [← HFB.out] at bO
  have cF : V.drew.cell? ⟨w.heap.size + 1 + 1, 0, none⟩ = some (.int .i64 FI) := bF.1 0 _ rfl
  have cO : V.drew.cell? ⟨w.heap.size + 1 + 1 + 1, 0, none⟩ = some (.bool FB) := bO.1 0 _ rfl
  have dF : V.drew.frozen? ⟨w.heap.size + 1 + 1, 0, none⟩ = false := bF.2 0 (by simp)
  have dO : V.drew.frozen? ⟨w.heap.size + 1 + 1 + 1, 0, none⟩ = false := bO.2 0 (by simp)
  have cO2 : (V.setCell ⟨w.heap.size + 1 + 1, 0, none⟩ (.int .i64 FI)).drew.cell? ⟨w.heap.size + 1 + 1 + 1, 0, none⟩ = some (.bool FB) := (bO.off (k := w.heap.size + 1 + 1) (i := 0) (u := .int .i64 FI) (by omega)).1 0 _ rfl
  have dO2 : (V.setCell ⟨w.heap.size + 1 + 1, 0, none⟩ (.int .i64 FI)).drew.frozen? ⟨w.heap.size + 1 + 1 + 1, 0, none⟩ = false := (bO.off (k := w.heap.size + 1 + 1) (i := 0) (u := .int .i64 FI) (by omega)).2 0 (by simp)
  obtain ⟨Z, hZ⟩ : ∃ Z, Z = ((V.setCell ⟨w.heap.size + 1 + 1, 0, none⟩ (.int .i64 FI)).setCell ⟨w.heap.size + 1 + 1 + 1, 0, none⟩ (.bool FB)).drew := ⟨_, rfl⟩
  have TZ : Turns (fun k => k = w.heap.size + 1 + 1 ∨ k = w.heap.size + 1 + 1 + 1) V Z := by
   rw [hZ]
   exact (((Turns.refl (fun k => k = w.heap.size + 1 + 1 ∨ k = w.heap.size + 1 + 1 + 1) V).setCell (p := ⟨w.heap.size + 1 + 1, 0, none⟩) (.inl rfl) _).setCell (p := ⟨w.heap.size + 1 + 1 + 1, 0, none⟩) (.inr rfl) _).drew
  have bFZ : BoxL Z (w.heap.size + 1 + 1) [.int .i64 FI] := by rw [hZ]; exact ((bF.set 0 (.int .i64 FI)).off (by omega)).below (Below.refl _ _).drew
  have bOZ : BoxL Z (w.heap.size + 1 + 1 + 1) [.bool FB] := by rw [hZ]; exact ((bO.off (by omega)).set 0 (.bool FB)).below (Below.refl _ _).drew
  have KZ := heap_turns hK TZ (by omega)
  have TP := turns_put Z D (.deferred none)
  have r0 := (boxL_turns bFZ TP (by omega)).1 0 _ rfl
  have r1 := (boxL_turns bOZ TP (by omega)).1 0 _ rfl
  gi_wp2
  refine wpIn_wide.2 ?_
  go_region
  rw [← hZ]
  gi_wp2
  refine ⟨by simp, .inl ⟨_, _, rfl, run_takeDeferred KZ, ?_⟩⟩
  refine ⟨.tuple #[.int .i64 FI, .bool FB], by simp [results, Try.results37, go_sem, r0, r1], rfl, ?_⟩
  have h1 : Turns (fun k => w.heap.size ≤ k) W1 V := t.mono fun k hk => by omega
  have h2 : Turns (fun k => w.heap.size ≤ k) V Z := TZ.mono fun k hk => by omega
  have h3 : Turns (fun k => w.heap.size ≤ k) Z _ := TP.mono fun k hk => by omega
  exact Below.turns hBW ((h1.trans h2).trans h3) (fun i hi => hi)
 case stop =>
  rintro D c pre V _ _ h _
  exact h.elim
end Go.Proofs.Ytdpljpjbomhccaa
namespace Go.Proofs.Ytdpljpjbomhccaa
open Go.RowKit Plain
set_option linter.unusedVariables false
theorem standL_iff (i t d k : Int) (r : ByteArray) : standT ⟨i, t, d, k, r⟩ = true ↔ ((0 ≤ i ∧ i ≤ 5) ∧ (0 ≤ t ∧ t ≤ 8) ∧ (0 ≤ d ∧ d ≤ 1099511627776) ∧ ((i = 2 → 1 ≤ k) ∧ (i ≠ 2 → k = 0)) ∧ k ≤ 1099511627776 ∧ r.size ≤ 16 ∧ (i ≠ 3 → r = ⟨#[]⟩)) := standT_iff ⟨i, t, d, k, r⟩
theorem restL_iff (tr i t d k : Int) (r : ByteArray) : restT tr ⟨i, t, d, k, r⟩ = true ↔ (t ≤ tr ∧ (i = 0 → t = 0) ∧ (i = 1 → t < tr) ∧ (i = 2 ∨ i = 3 → 1 ≤ t) ∧ (i = 4 → t = tr) ∧ (d = 0 ∨ i = 1 ∨ i = 2)) := restT_iff tr ⟨i, t, d, k, r⟩
theorem bool_false {b : Bool} (h : ¬ b = true) : b = false := by simpa using h
theorem sizeN {k : ByteArray} (h : k = ⟨#[]⟩) : k.size = 0 := by rw [h]; rfl
set_option maxRecDepth 20000 in
set_option maxHeartbeats 2000000 in
theorem mayStand_any (i t d k : Int) (r : ByteArray) (w : World) (hz : r.size ≤ maxLen) :
  Calls Try.prog 83 #[.agg #[.int .i64 i, .int .i64 t, .int .i64 d, .int .i64 k, .string r]] w fun e w' => e = .returned (.bool (standT ⟨i, t, d, k, r⟩)) ∧ Below w.heap.size w w' := by
 have hB : Below w.heap.size w (w.alloc (.cells #[.int .i64 i, .int .i64 t, .int .i64 d, .int .i64 k, .string r] 52)) := (Below.refl _ _).alloc (Nat.le_refl _) _
 have hzi : r.size ≤ 9223372036854775807 := hz
 by_cases h1 : t < 0
 ·
  have c1 := isTimeT_any d
  have c2 := isTokenT_any k
  have hr : Hid (standT ⟨i, t, d, k, r⟩ = false) := bool_false fun hh => by have := ((standL_iff _ _ _ _ _).1 hh).2.1; omega
  go_enter Try.func83, Try.ntmps83
  go_wp2_with (first
   | (go_at_call 97; refine (c1 _).mono ?_; rintro e w' ⟨rfl, rfl⟩)
   | (go_at_call 86; refine (c2 _).mono ?_; rintro e w' ⟨rfl, rfl⟩))
  go_ret
  exact ⟨ret_bool hr.out.symm, hB⟩
 by_cases h2 : 8 < t
 ·
  have c1 := isTimeT_any d
  have c2 := isTokenT_any k
  have hr : Hid (standT ⟨i, t, d, k, r⟩ = false) := bool_false fun hh => by have := ((standL_iff _ _ _ _ _).1 hh).2.1; omega
  go_enter Try.func83, Try.ntmps83
  go_wp2_with (first
   | (go_at_call 97; refine (c1 _).mono ?_; rintro e w' ⟨rfl, rfl⟩)
   | (go_at_call 86; refine (c2 _).mono ?_; rintro e w' ⟨rfl, rfl⟩))
  go_ret
  exact ⟨ret_bool hr.out.symm, hB⟩
 by_cases hd : 0 ≤ d ∧ d ≤ 1099511627776
 ·
  have c1 := isTimeT_any d
  rw [show timeB d = true from decide_eq_true hd] at c1
  have c2 := isTokenT_any k
  by_cases i2 : i = 2
  ·
   subst i2
   by_cases hk : 1 ≤ k ∧ k ≤ 1099511627776
   ·
    rw [show tokB k = true from decide_eq_true hk] at c2
    by_cases h6 : r = ⟨#[]⟩
    ·
     have h6' := empT_true h6
     have hr : Hid (standT ⟨2, t, d, k, r⟩ = true) := (standL_iff _ _ _ _ _).2 ⟨by omega, by omega, hd, by omega, by omega, by (have := sizeN h6; omega), fun _ => h6⟩
     clear h6
     go_enter Try.func83, Try.ntmps83
     go_wp2_with (first
      | (go_at_call 97; refine (c1 _).mono ?_; rintro e w' ⟨rfl, rfl⟩)
      | (go_at_call 86; refine (c2 _).mono ?_; rintro e w' ⟨rfl, rfl⟩))
     go_ret
     exact ⟨ret_bool hr.out.symm, hB⟩
    ·
     have h6' := empT_false h6
     have hr : Hid (standT ⟨2, t, d, k, r⟩ = false) := bool_false fun hh => h6 (((standL_iff _ _ _ _ _).1 hh).2.2.2.2.2.2 (by omega))
     clear h6
     go_enter Try.func83, Try.ntmps83
     go_wp2_with (first
      | (go_at_call 97; refine (c1 _).mono ?_; rintro e w' ⟨rfl, rfl⟩)
      | (go_at_call 86; refine (c2 _).mono ?_; rintro e w' ⟨rfl, rfl⟩))
     go_ret
     exact ⟨ret_bool hr.out.symm, hB⟩
   ·
    rw [show tokB k = false from decide_eq_false hk] at c2
    have hr : Hid (standT ⟨2, t, d, k, r⟩ = false) := bool_false fun hh => hk ⟨((standL_iff _ _ _ _ _).1 hh).2.2.2.1.1 rfl, ((standL_iff _ _ _ _ _).1 hh).2.2.2.2.1⟩
    clear hk
    go_enter Try.func83, Try.ntmps83
    go_wp2_with (first
     | (go_at_call 97; refine (c1 _).mono ?_; rintro e w' ⟨rfl, rfl⟩)
     | (go_at_call 86; refine (c2 _).mono ?_; rintro e w' ⟨rfl, rfl⟩))
    go_ret
    exact ⟨ret_bool hr.out.symm, hB⟩
  by_cases i3 : i = 3
  ·
   subst i3
   by_cases h5 : k = 0
   ·
    subst h5
    by_cases h6 : r.size ≤ 16
    ·
     have h6' : (r.size : Int) ≤ 16 := by omega
     have hr : Hid (standT ⟨3, t, d, 0, r⟩ = true) := (standL_iff _ _ _ _ _).2 ⟨by omega, by omega, hd, by omega, by omega, h6, fun hn => absurd rfl hn⟩
     go_enter Try.func83, Try.ntmps83
     go_wp2_with (first
      | (go_at_call 97; refine (c1 _).mono ?_; rintro e w' ⟨rfl, rfl⟩)
      | (go_at_call 86; refine (c2 _).mono ?_; rintro e w' ⟨rfl, rfl⟩))
     go_ret
     exact ⟨ret_bool hr.out.symm, hB⟩
    ·
     have h6' : ¬ (r.size : Int) ≤ 16 := by omega
     have hr : Hid (decide ((r.size : Int) ≤ 16) = standT ⟨3, t, d, 0, r⟩) := by
      show _ = _
      rw [decide_eq_false h6']
      exact (bool_false fun hh => h6 ((standL_iff _ _ _ _ _).1 hh).2.2.2.2.2.1).symm
     clear h6 h6'
     go_enter Try.func83, Try.ntmps83
     go_wp2_with (first
      | (go_at_call 97; refine (c1 _).mono ?_; rintro e w' ⟨rfl, rfl⟩)
      | (go_at_call 86; refine (c2 _).mono ?_; rintro e w' ⟨rfl, rfl⟩))
     go_ret
     exact ⟨ret_bool hr.out, hB⟩
   ·
    have hr : Hid (standT ⟨3, t, d, k, r⟩ = false) := bool_false fun hh => h5 (((standL_iff _ _ _ _ _).1 hh).2.2.2.1.2 (by omega))
    go_enter Try.func83, Try.ntmps83
    go_wp2_with (first
     | (go_at_call 97; refine (c1 _).mono ?_; rintro e w' ⟨rfl, rfl⟩)
     | (go_at_call 86; refine (c2 _).mono ?_; rintro e w' ⟨rfl, rfl⟩))
    go_ret
    exact ⟨ret_bool hr.out.symm, hB⟩
  by_cases i0 : i = 0
  ·
   subst i0
   clear i2 i3
   by_cases h5 : k = 0
   ·
    subst h5
    by_cases h6 : r = ⟨#[]⟩
    ·
     have h6' := empT_true h6
     have hr : Hid (standT ⟨0, t, d, 0, r⟩ = true) := (standL_iff _ _ _ _ _).2 ⟨by omega, by omega, hd, by omega, by omega, by (have := sizeN h6; omega), fun _ => h6⟩
     clear h6
     go_enter Try.func83, Try.ntmps83
     go_wp2_with (first
      | (go_at_call 97; refine (c1 _).mono ?_; rintro e w' ⟨rfl, rfl⟩)
      | (go_at_call 86; refine (c2 _).mono ?_; rintro e w' ⟨rfl, rfl⟩))
     go_ret
     exact ⟨ret_bool hr.out.symm, hB⟩
    ·
     have h6' := empT_false h6
     have hr : Hid (standT ⟨0, t, d, 0, r⟩ = false) := bool_false fun hh => h6 (((standL_iff _ _ _ _ _).1 hh).2.2.2.2.2.2 (by omega))
     clear h6
     go_enter Try.func83, Try.ntmps83
     go_wp2_with (first
      | (go_at_call 97; refine (c1 _).mono ?_; rintro e w' ⟨rfl, rfl⟩)
      | (go_at_call 86; refine (c2 _).mono ?_; rintro e w' ⟨rfl, rfl⟩))
     go_ret
     exact ⟨ret_bool hr.out.symm, hB⟩
   ·
    have hr : Hid (standT ⟨0, t, d, k, r⟩ = false) := bool_false fun hh => h5 (((standL_iff _ _ _ _ _).1 hh).2.2.2.1.2 (by omega))
    go_enter Try.func83, Try.ntmps83
    go_wp2_with (first
     | (go_at_call 97; refine (c1 _).mono ?_; rintro e w' ⟨rfl, rfl⟩)
     | (go_at_call 86; refine (c2 _).mono ?_; rintro e w' ⟨rfl, rfl⟩))
    go_ret
    exact ⟨ret_bool hr.out.symm, hB⟩
  by_cases i1 : i = 1
  ·
   subst i1
   clear i2 i3 i0
   by_cases h5 : k = 0
   ·
    subst h5
    by_cases h6 : r = ⟨#[]⟩
    ·
     have h6' := empT_true h6
     have hr : Hid (standT ⟨1, t, d, 0, r⟩ = true) := (standL_iff _ _ _ _ _).2 ⟨by omega, by omega, hd, by omega, by omega, by (have := sizeN h6; omega), fun _ => h6⟩
     clear h6
     go_enter Try.func83, Try.ntmps83
     go_wp2_with (first
      | (go_at_call 97; refine (c1 _).mono ?_; rintro e w' ⟨rfl, rfl⟩)
      | (go_at_call 86; refine (c2 _).mono ?_; rintro e w' ⟨rfl, rfl⟩))
     go_ret
     exact ⟨ret_bool hr.out.symm, hB⟩
    ·
     have h6' := empT_false h6
     have hr : Hid (standT ⟨1, t, d, 0, r⟩ = false) := bool_false fun hh => h6 (((standL_iff _ _ _ _ _).1 hh).2.2.2.2.2.2 (by omega))
     clear h6
     go_enter Try.func83, Try.ntmps83
     go_wp2_with (first
      | (go_at_call 97; refine (c1 _).mono ?_; rintro e w' ⟨rfl, rfl⟩)
      | (go_at_call 86; refine (c2 _).mono ?_; rintro e w' ⟨rfl, rfl⟩))
     go_ret
     exact ⟨ret_bool hr.out.symm, hB⟩
   ·
    have hr : Hid (standT ⟨1, t, d, k, r⟩ = false) := bool_false fun hh => h5 (((standL_iff _ _ _ _ _).1 hh).2.2.2.1.2 (by omega))
    go_enter Try.func83, Try.ntmps83
    go_wp2_with (first
     | (go_at_call 97; refine (c1 _).mono ?_; rintro e w' ⟨rfl, rfl⟩)
     | (go_at_call 86; refine (c2 _).mono ?_; rintro e w' ⟨rfl, rfl⟩))
    go_ret
    exact ⟨ret_bool hr.out.symm, hB⟩
  by_cases i4 : i = 4
  ·
   subst i4
   clear i2 i3 i0 i1
   by_cases h5 : k = 0
   ·
    subst h5
    by_cases h6 : r = ⟨#[]⟩
    ·
     have h6' := empT_true h6
     have hr : Hid (standT ⟨4, t, d, 0, r⟩ = true) := (standL_iff _ _ _ _ _).2 ⟨by omega, by omega, hd, by omega, by omega, by (have := sizeN h6; omega), fun _ => h6⟩
     clear h6
     go_enter Try.func83, Try.ntmps83
     go_wp2_with (first
      | (go_at_call 97; refine (c1 _).mono ?_; rintro e w' ⟨rfl, rfl⟩)
      | (go_at_call 86; refine (c2 _).mono ?_; rintro e w' ⟨rfl, rfl⟩))
     go_ret
     exact ⟨ret_bool hr.out.symm, hB⟩
    ·
     have h6' := empT_false h6
     have hr : Hid (standT ⟨4, t, d, 0, r⟩ = false) := bool_false fun hh => h6 (((standL_iff _ _ _ _ _).1 hh).2.2.2.2.2.2 (by omega))
     clear h6
     go_enter Try.func83, Try.ntmps83
     go_wp2_with (first
      | (go_at_call 97; refine (c1 _).mono ?_; rintro e w' ⟨rfl, rfl⟩)
      | (go_at_call 86; refine (c2 _).mono ?_; rintro e w' ⟨rfl, rfl⟩))
     go_ret
     exact ⟨ret_bool hr.out.symm, hB⟩
   ·
    have hr : Hid (standT ⟨4, t, d, k, r⟩ = false) := bool_false fun hh => h5 (((standL_iff _ _ _ _ _).1 hh).2.2.2.1.2 (by omega))
    go_enter Try.func83, Try.ntmps83
    go_wp2_with (first
     | (go_at_call 97; refine (c1 _).mono ?_; rintro e w' ⟨rfl, rfl⟩)
     | (go_at_call 86; refine (c2 _).mono ?_; rintro e w' ⟨rfl, rfl⟩))
    go_ret
    exact ⟨ret_bool hr.out.symm, hB⟩
  by_cases i5 : i = 5
  ·
   subst i5
   clear i2 i3 i0 i1 i4
   by_cases h5 : k = 0
   ·
    subst h5
    by_cases h6 : r = ⟨#[]⟩
    ·
     have h6' := empT_true h6
     have hr : Hid (standT ⟨5, t, d, 0, r⟩ = true) := (standL_iff _ _ _ _ _).2 ⟨by omega, by omega, hd, by omega, by omega, by (have := sizeN h6; omega), fun _ => h6⟩
     clear h6
     go_enter Try.func83, Try.ntmps83
     go_wp2_with (first
      | (go_at_call 97; refine (c1 _).mono ?_; rintro e w' ⟨rfl, rfl⟩)
      | (go_at_call 86; refine (c2 _).mono ?_; rintro e w' ⟨rfl, rfl⟩))
     go_ret
     exact ⟨ret_bool hr.out.symm, hB⟩
    ·
     have h6' := empT_false h6
     have hr : Hid (standT ⟨5, t, d, 0, r⟩ = false) := bool_false fun hh => h6 (((standL_iff _ _ _ _ _).1 hh).2.2.2.2.2.2 (by omega))
     clear h6
     go_enter Try.func83, Try.ntmps83
     go_wp2_with (first
      | (go_at_call 97; refine (c1 _).mono ?_; rintro e w' ⟨rfl, rfl⟩)
      | (go_at_call 86; refine (c2 _).mono ?_; rintro e w' ⟨rfl, rfl⟩))
     go_ret
     exact ⟨ret_bool hr.out.symm, hB⟩
   ·
    have hr : Hid (standT ⟨5, t, d, k, r⟩ = false) := bool_false fun hh => h5 (((standL_iff _ _ _ _ _).1 hh).2.2.2.1.2 (by omega))
    go_enter Try.func83, Try.ntmps83
    go_wp2_with (first
     | (go_at_call 97; refine (c1 _).mono ?_; rintro e w' ⟨rfl, rfl⟩)
     | (go_at_call 86; refine (c2 _).mono ?_; rintro e w' ⟨rfl, rfl⟩))
    go_ret
    exact ⟨ret_bool hr.out.symm, hB⟩
  have hr : Hid (standT ⟨i, t, d, k, r⟩ = false) := bool_false fun hh => by have := ((standL_iff _ _ _ _ _).1 hh).1; omega
  go_enter Try.func83, Try.ntmps83
  go_wp2_with (first
   | (go_at_call 97; refine (c1 _).mono ?_; rintro e w' ⟨rfl, rfl⟩)
   | (go_at_call 86; refine (c2 _).mono ?_; rintro e w' ⟨rfl, rfl⟩))
  go_ret
  exact ⟨ret_bool hr.out.symm, hB⟩
 ·
  have c1 := isTimeT_any d
  have c2 := isTokenT_any k
  rw [show timeB d = false from decide_eq_false hd] at c1
  have hr : Hid (standT ⟨i, t, d, k, r⟩ = false) := bool_false fun hh => hd ((standL_iff _ _ _ _ _).1 hh).2.2.1
  clear hd
  go_enter Try.func83, Try.ntmps83
  go_wp2_with (first
   | (go_at_call 97; refine (c1 _).mono ?_; rintro e w' ⟨rfl, rfl⟩)
   | (go_at_call 86; refine (c2 _).mono ?_; rintro e w' ⟨rfl, rfl⟩))
  go_ret
  exact ⟨ret_bool hr.out.symm, hB⟩
theorem rightL_true {tr i t d k : Int} {r : ByteArray} (h : standT ⟨i, t, d, k, r⟩ = true) (g : t ≤ tr ∧ (i = 0 → t = 0) ∧ (i = 1 → t < tr) ∧ (i = 2 ∨ i = 3 → 1 ≤ t) ∧ (i = 4 → t = tr) ∧ (d = 0 ∨ i = 1 ∨ i = 2)) : rightT tr ⟨i, t, d, k, r⟩ = true := by
 rw [rightT, h, (restL_iff _ _ _ _ _ _).2 g]; rfl
theorem rightL_false {tr i t d k : Int} {r : ByteArray} (g : ¬ (t ≤ tr ∧ (i = 0 → t = 0) ∧ (i = 1 → t < tr) ∧ (i = 2 ∨ i = 3 → 1 ≤ t) ∧ (i = 4 → t = tr) ∧ (d = 0 ∨ i = 1 ∨ i = 2))) : rightT tr ⟨i, t, d, k, r⟩ = false :=
 bool_false fun hh => g ((restL_iff _ _ _ _ _ _).1 (right_parts hh).2)
set_option maxRecDepth 20000 in
set_option maxHeartbeats 2000000 in
theorem rightT_any (ta : Option Addr) (tl tc : Nat) (tr wt le : Int) (i t d k : Int) (r : ByteArray) (w : World) (hz : r.size ≤ maxLen) :
  Calls Try.prog 42 #[.agg #[.slice ta tl tc, .int .i64 tr, .int .i64 wt, .int .i64 le], .agg #[.int .i64 i, .int .i64 t, .int .i64 d, .int .i64 k, .string r]] w fun e w' => e = .returned (.bool (rightT tr ⟨i, t, d, k, r⟩)) ∧ Below w.heap.size w w' := by
 have c1 := fun W => mayStand_any i t d k r W hz
 cases hb : standT ⟨i, t, d, k, r⟩ with
 | false =>
  rw [hb] at c1
  have hr : Hid (rightT tr ⟨i, t, d, k, r⟩ = false) := by show _ = _; rw [rightT, hb]; rfl
  clear hb
  go_enter Try.func42, Try.ntmps42
  go_wp2_with (go_at_call 83; refine (c1 _).mono ?_; rintro e w1 ⟨rfl, hb⟩; obtain ⟨bt, bs, hB⟩ := boxes2 w [.slice ta tl tc, .int .i64 tr, .int .i64 wt, .int .i64 le] [.int .i64 i, .int .i64 t, .int .i64 d, .int .i64 k, .string r] _ _ (by simp) (by simp) hb; have x1 := bt.1 1 _ rfl; have s0 := bs.1 0 _ rfl; have s1 := bs.1 1 _ rfl; have s2 := bs.1 2 _ rfl; have s3 := bs.1 3 _ rfl; have s4 := bs.1 4 _ rfl; clear hb bt bs)
  go_ret
  exact ⟨ret_bool (by first | exact hr.out.symm | (rw [hr.out]; simp; done) | (rw [hr.out]; simp; omega)), hB⟩
 | true =>
  rw [hb] at c1
  have hS := (standL_iff _ _ _ _ _).1 hb
  by_cases h1 : tr < t
  ·
   have hr : Hid (rightT tr ⟨i, t, d, k, r⟩ = false) := rightL_false (by omega)
   clear hb hS
   go_enter Try.func42, Try.ntmps42
   go_wp2_with (go_at_call 83; refine (c1 _).mono ?_; rintro e w1 ⟨rfl, hb⟩; obtain ⟨bt, bs, hB⟩ := boxes2 w [.slice ta tl tc, .int .i64 tr, .int .i64 wt, .int .i64 le] [.int .i64 i, .int .i64 t, .int .i64 d, .int .i64 k, .string r] _ _ (by simp) (by simp) hb; have x1 := bt.1 1 _ rfl; have s0 := bs.1 0 _ rfl; have s1 := bs.1 1 _ rfl; have s2 := bs.1 2 _ rfl; have s3 := bs.1 3 _ rfl; have s4 := bs.1 4 _ rfl; clear hb bt bs)
   go_ret
   exact ⟨ret_bool (by first | exact hr.out.symm | (rw [hr.out]; simp; done) | (rw [hr.out]; simp; omega)), hB⟩
  by_cases i1 : i = 1
  ·
   subst i1
   by_cases h2 : t < tr
   ·
    have hr : Hid (rightT tr ⟨1, t, d, k, r⟩ = true) := rightL_true hb (by omega)
    clear hb hS
    go_enter Try.func42, Try.ntmps42
    go_wp2_with (go_at_call 83; refine (c1 _).mono ?_; rintro e w1 ⟨rfl, hb⟩; obtain ⟨bt, bs, hB⟩ := boxes2 w [.slice ta tl tc, .int .i64 tr, .int .i64 wt, .int .i64 le] [.int .i64 1, .int .i64 t, .int .i64 d, .int .i64 k, .string r] _ _ (by simp) (by simp) hb; have x1 := bt.1 1 _ rfl; have s0 := bs.1 0 _ rfl; have s1 := bs.1 1 _ rfl; have s2 := bs.1 2 _ rfl; have s3 := bs.1 3 _ rfl; have s4 := bs.1 4 _ rfl; clear hb bt bs)
    go_ret
    exact ⟨ret_bool (by first | exact hr.out.symm | (rw [hr.out]; simp; done) | (rw [hr.out]; simp; omega)), hB⟩
   ·
    have hr : Hid (rightT tr ⟨1, t, d, k, r⟩ = false) := rightL_false (by omega)
    clear hb hS
    go_enter Try.func42, Try.ntmps42
    go_wp2_with (go_at_call 83; refine (c1 _).mono ?_; rintro e w1 ⟨rfl, hb⟩; obtain ⟨bt, bs, hB⟩ := boxes2 w [.slice ta tl tc, .int .i64 tr, .int .i64 wt, .int .i64 le] [.int .i64 1, .int .i64 t, .int .i64 d, .int .i64 k, .string r] _ _ (by simp) (by simp) hb; have x1 := bt.1 1 _ rfl; have s0 := bs.1 0 _ rfl; have s1 := bs.1 1 _ rfl; have s2 := bs.1 2 _ rfl; have s3 := bs.1 3 _ rfl; have s4 := bs.1 4 _ rfl; clear hb bt bs)
    go_ret
    exact ⟨ret_bool (by first | exact hr.out.symm | (rw [hr.out]; simp; done) | (rw [hr.out]; simp; omega)), hB⟩
  by_cases i2 : i = 2
  ·
   subst i2
   clear i1
   by_cases h2 : 1 ≤ t
   ·
    have hr : Hid (rightT tr ⟨2, t, d, k, r⟩ = true) := rightL_true hb (by omega)
    clear hb hS
    go_enter Try.func42, Try.ntmps42
    go_wp2_with (go_at_call 83; refine (c1 _).mono ?_; rintro e w1 ⟨rfl, hb⟩; obtain ⟨bt, bs, hB⟩ := boxes2 w [.slice ta tl tc, .int .i64 tr, .int .i64 wt, .int .i64 le] [.int .i64 2, .int .i64 t, .int .i64 d, .int .i64 k, .string r] _ _ (by simp) (by simp) hb; have x1 := bt.1 1 _ rfl; have s0 := bs.1 0 _ rfl; have s1 := bs.1 1 _ rfl; have s2 := bs.1 2 _ rfl; have s3 := bs.1 3 _ rfl; have s4 := bs.1 4 _ rfl; clear hb bt bs)
    go_ret
    exact ⟨ret_bool (by first | exact hr.out.symm | (rw [hr.out]; simp; done) | (rw [hr.out]; simp; omega)), hB⟩
   ·
    have hr : Hid (rightT tr ⟨2, t, d, k, r⟩ = false) := rightL_false (by omega)
    clear hb hS
    go_enter Try.func42, Try.ntmps42
    go_wp2_with (go_at_call 83; refine (c1 _).mono ?_; rintro e w1 ⟨rfl, hb⟩; obtain ⟨bt, bs, hB⟩ := boxes2 w [.slice ta tl tc, .int .i64 tr, .int .i64 wt, .int .i64 le] [.int .i64 2, .int .i64 t, .int .i64 d, .int .i64 k, .string r] _ _ (by simp) (by simp) hb; have x1 := bt.1 1 _ rfl; have s0 := bs.1 0 _ rfl; have s1 := bs.1 1 _ rfl; have s2 := bs.1 2 _ rfl; have s3 := bs.1 3 _ rfl; have s4 := bs.1 4 _ rfl; clear hb bt bs)
    go_ret
    exact ⟨ret_bool (by first | exact hr.out.symm | (rw [hr.out]; simp; done) | (rw [hr.out]; simp; omega)), hB⟩
  by_cases i3 : i = 3
  ·
   subst i3
   clear i1 i2
   by_cases h2 : t < 1
   ·
    have hr : Hid (rightT tr ⟨3, t, d, k, r⟩ = false) := rightL_false (by omega)
    clear hb hS
    go_enter Try.func42, Try.ntmps42
    go_wp2_with (go_at_call 83; refine (c1 _).mono ?_; rintro e w1 ⟨rfl, hb⟩; obtain ⟨bt, bs, hB⟩ := boxes2 w [.slice ta tl tc, .int .i64 tr, .int .i64 wt, .int .i64 le] [.int .i64 3, .int .i64 t, .int .i64 d, .int .i64 k, .string r] _ _ (by simp) (by simp) hb; have x1 := bt.1 1 _ rfl; have s0 := bs.1 0 _ rfl; have s1 := bs.1 1 _ rfl; have s2 := bs.1 2 _ rfl; have s3 := bs.1 3 _ rfl; have s4 := bs.1 4 _ rfl; clear hb bt bs)
    go_ret
    exact ⟨ret_bool (by first | exact hr.out.symm | (rw [hr.out]; simp; done) | (rw [hr.out]; simp; omega)), hB⟩
   by_cases h3 : d = 0
   ·
    subst h3
    have hr : Hid (rightT tr ⟨3, t, 0, k, r⟩ = true) := rightL_true hb (by omega)
    clear hb hS
    go_enter Try.func42, Try.ntmps42
    go_wp2_with (go_at_call 83; refine (c1 _).mono ?_; rintro e w1 ⟨rfl, hb⟩; obtain ⟨bt, bs, hB⟩ := boxes2 w [.slice ta tl tc, .int .i64 tr, .int .i64 wt, .int .i64 le] [.int .i64 3, .int .i64 t, .int .i64 0, .int .i64 k, .string r] _ _ (by simp) (by simp) hb; have x1 := bt.1 1 _ rfl; have s0 := bs.1 0 _ rfl; have s1 := bs.1 1 _ rfl; have s2 := bs.1 2 _ rfl; have s3 := bs.1 3 _ rfl; have s4 := bs.1 4 _ rfl; clear hb bt bs)
    go_ret
    exact ⟨ret_bool (by first | exact hr.out.symm | (rw [hr.out]; simp; done) | (rw [hr.out]; simp; omega)), hB⟩
   ·
    have hr : Hid (rightT tr ⟨3, t, d, k, r⟩ = false) := rightL_false (by omega)
    have h3' : (d == 0) = false := by simpa using h3
    clear hb hS
    go_enter Try.func42, Try.ntmps42
    go_wp2_with (go_at_call 83; refine (c1 _).mono ?_; rintro e w1 ⟨rfl, hb⟩; obtain ⟨bt, bs, hB⟩ := boxes2 w [.slice ta tl tc, .int .i64 tr, .int .i64 wt, .int .i64 le] [.int .i64 3, .int .i64 t, .int .i64 d, .int .i64 k, .string r] _ _ (by simp) (by simp) hb; have x1 := bt.1 1 _ rfl; have s0 := bs.1 0 _ rfl; have s1 := bs.1 1 _ rfl; have s2 := bs.1 2 _ rfl; have s3 := bs.1 3 _ rfl; have s4 := bs.1 4 _ rfl; clear hb bt bs)
    go_ret
    exact ⟨ret_bool (by first | exact hr.out.symm | (rw [hr.out]; simp; done) | (rw [hr.out]; simp; omega)), hB⟩
  by_cases i5 : i = 5
  ·
   subst i5
   clear i1 i2 i3
   by_cases h3 : d = 0
   ·
    subst h3
    have hr : Hid (rightT tr ⟨5, t, 0, k, r⟩ = true) := rightL_true hb (by omega)
    clear hb hS
    go_enter Try.func42, Try.ntmps42
    go_wp2_with (go_at_call 83; refine (c1 _).mono ?_; rintro e w1 ⟨rfl, hb⟩; obtain ⟨bt, bs, hB⟩ := boxes2 w [.slice ta tl tc, .int .i64 tr, .int .i64 wt, .int .i64 le] [.int .i64 5, .int .i64 t, .int .i64 0, .int .i64 k, .string r] _ _ (by simp) (by simp) hb; have x1 := bt.1 1 _ rfl; have s0 := bs.1 0 _ rfl; have s1 := bs.1 1 _ rfl; have s2 := bs.1 2 _ rfl; have s3 := bs.1 3 _ rfl; have s4 := bs.1 4 _ rfl; clear hb bt bs)
    go_ret
    exact ⟨ret_bool (by first | exact hr.out.symm | (rw [hr.out]; simp; done) | (rw [hr.out]; simp; omega)), hB⟩
   ·
    have hr : Hid (rightT tr ⟨5, t, d, k, r⟩ = false) := rightL_false (by omega)
    have h3' : (d == 0) = false := by simpa using h3
    clear hb hS
    go_enter Try.func42, Try.ntmps42
    go_wp2_with (go_at_call 83; refine (c1 _).mono ?_; rintro e w1 ⟨rfl, hb⟩; obtain ⟨bt, bs, hB⟩ := boxes2 w [.slice ta tl tc, .int .i64 tr, .int .i64 wt, .int .i64 le] [.int .i64 5, .int .i64 t, .int .i64 d, .int .i64 k, .string r] _ _ (by simp) (by simp) hb; have x1 := bt.1 1 _ rfl; have s0 := bs.1 0 _ rfl; have s1 := bs.1 1 _ rfl; have s2 := bs.1 2 _ rfl; have s3 := bs.1 3 _ rfl; have s4 := bs.1 4 _ rfl; clear hb bt bs)
    go_ret
    exact ⟨ret_bool (by first | exact hr.out.symm | (rw [hr.out]; simp; done) | (rw [hr.out]; simp; omega)), hB⟩
  have hr0 := hS.2.2.2.2.2.2 i3
  have hk0 := hS.2.2.2.1.2 i2
  subst hr0 hk0
  by_cases i4 : i = 4
  ·
   subst i4
   clear i1 i2 i3 i5
   by_cases h2 : t = tr
   ·
    have h2' : (t == tr) = true := by simpa using h2
    by_cases h3 : d = 0
    ·
     subst h3
     have hr : Hid (rightT tr ⟨4, t, 0, 0, ⟨#[]⟩⟩ = true) := rightL_true hb (by omega)
     clear hb hS h2
     go_enter Try.func42, Try.ntmps42
     go_wp2_with (go_at_call 83; refine (c1 _).mono ?_; rintro e w1 ⟨rfl, hb⟩; obtain ⟨bt, bs, hB⟩ := boxes2 w [.slice ta tl tc, .int .i64 tr, .int .i64 wt, .int .i64 le] [.int .i64 4, .int .i64 t, .int .i64 0, .int .i64 0, .string ⟨#[]⟩] _ _ (by simp) (by simp) hb; have x1 := bt.1 1 _ rfl; have s0 := bs.1 0 _ rfl; have s1 := bs.1 1 _ rfl; have s2 := bs.1 2 _ rfl; have s3 := bs.1 3 _ rfl; have s4 := bs.1 4 _ rfl; clear hb bt bs)
     go_ret
     exact ⟨ret_bool (by first | exact hr.out.symm | (rw [hr.out]; simp; done) | (rw [hr.out]; simp; omega)), hB⟩
    ·
     have hr : Hid (rightT tr ⟨4, t, d, 0, ⟨#[]⟩⟩ = false) := rightL_false (by omega)
     have h3' : (d == 0) = false := by simpa using h3
     clear hb hS h2
     go_enter Try.func42, Try.ntmps42
     go_wp2_with (go_at_call 83; refine (c1 _).mono ?_; rintro e w1 ⟨rfl, hb⟩; obtain ⟨bt, bs, hB⟩ := boxes2 w [.slice ta tl tc, .int .i64 tr, .int .i64 wt, .int .i64 le] [.int .i64 4, .int .i64 t, .int .i64 d, .int .i64 0, .string ⟨#[]⟩] _ _ (by simp) (by simp) hb; have x1 := bt.1 1 _ rfl; have s0 := bs.1 0 _ rfl; have s1 := bs.1 1 _ rfl; have s2 := bs.1 2 _ rfl; have s3 := bs.1 3 _ rfl; have s4 := bs.1 4 _ rfl; clear hb bt bs)
     go_ret
     exact ⟨ret_bool (by first | exact hr.out.symm | (rw [hr.out]; simp; done) | (rw [hr.out]; simp; omega)), hB⟩
   ·
    have hr : Hid (rightT tr ⟨4, t, d, 0, ⟨#[]⟩⟩ = false) := rightL_false (by omega)
    have h2' : (t == tr) = false := by simpa using h2
    clear hb hS
    go_enter Try.func42, Try.ntmps42
    go_wp2_with (go_at_call 83; refine (c1 _).mono ?_; rintro e w1 ⟨rfl, hb⟩; obtain ⟨bt, bs, hB⟩ := boxes2 w [.slice ta tl tc, .int .i64 tr, .int .i64 wt, .int .i64 le] [.int .i64 4, .int .i64 t, .int .i64 d, .int .i64 0, .string ⟨#[]⟩] _ _ (by simp) (by simp) hb; have x1 := bt.1 1 _ rfl; have s0 := bs.1 0 _ rfl; have s1 := bs.1 1 _ rfl; have s2 := bs.1 2 _ rfl; have s3 := bs.1 3 _ rfl; have s4 := bs.1 4 _ rfl; clear hb bt bs)
    go_ret
    exact ⟨ret_bool (by first | exact hr.out.symm | (rw [hr.out]; simp; done) | (rw [hr.out]; simp; omega)), hB⟩
  obtain rfl : i = 0 := by omega
  clear i1 i2 i3 i4 i5
  by_cases h2 : t = 0
  ·
   subst h2
   by_cases h3 : d = 0
   ·
    subst h3
    have hr : Hid (rightT tr ⟨0, 0, 0, 0, ⟨#[]⟩⟩ = true) := rightL_true hb (by omega)
    clear hb hS
    go_enter Try.func42, Try.ntmps42
    go_wp2_with (go_at_call 83; refine (c1 _).mono ?_; rintro e w1 ⟨rfl, hb⟩; obtain ⟨bt, bs, hB⟩ := boxes2 w [.slice ta tl tc, .int .i64 tr, .int .i64 wt, .int .i64 le] [.int .i64 0, .int .i64 0, .int .i64 0, .int .i64 0, .string ⟨#[]⟩] _ _ (by simp) (by simp) hb; have x1 := bt.1 1 _ rfl; have s0 := bs.1 0 _ rfl; have s1 := bs.1 1 _ rfl; have s2 := bs.1 2 _ rfl; have s3 := bs.1 3 _ rfl; have s4 := bs.1 4 _ rfl; clear hb bt bs)
    go_ret
    exact ⟨ret_bool (by first | exact hr.out.symm | (rw [hr.out]; simp; done) | (rw [hr.out]; simp; omega)), hB⟩
   ·
    have hr : Hid (rightT tr ⟨0, 0, d, 0, ⟨#[]⟩⟩ = false) := rightL_false (by omega)
    have h3' : (d == 0) = false := by simpa using h3
    clear hb hS
    go_enter Try.func42, Try.ntmps42
    go_wp2_with (go_at_call 83; refine (c1 _).mono ?_; rintro e w1 ⟨rfl, hb⟩; obtain ⟨bt, bs, hB⟩ := boxes2 w [.slice ta tl tc, .int .i64 tr, .int .i64 wt, .int .i64 le] [.int .i64 0, .int .i64 0, .int .i64 d, .int .i64 0, .string ⟨#[]⟩] _ _ (by simp) (by simp) hb; have x1 := bt.1 1 _ rfl; have s0 := bs.1 0 _ rfl; have s1 := bs.1 1 _ rfl; have s2 := bs.1 2 _ rfl; have s3 := bs.1 3 _ rfl; have s4 := bs.1 4 _ rfl; clear hb bt bs)
    go_ret
    exact ⟨ret_bool (by first | exact hr.out.symm | (rw [hr.out]; simp; done) | (rw [hr.out]; simp; omega)), hB⟩
  ·
   have hr : Hid (rightT tr ⟨0, t, d, 0, ⟨#[]⟩⟩ = false) := rightL_false (by omega)
   have h2' : (t == 0) = false := by simpa using h2
   clear hb hS
   go_enter Try.func42, Try.ntmps42
   go_wp2_with (go_at_call 83; refine (c1 _).mono ?_; rintro e w1 ⟨rfl, hb⟩; obtain ⟨bt, bs, hB⟩ := boxes2 w [.slice ta tl tc, .int .i64 tr, .int .i64 wt, .int .i64 le] [.int .i64 0, .int .i64 t, .int .i64 d, .int .i64 0, .string ⟨#[]⟩] _ _ (by simp) (by simp) hb; have x1 := bt.1 1 _ rfl; have s0 := bs.1 0 _ rfl; have s1 := bs.1 1 _ rfl; have s2 := bs.1 2 _ rfl; have s3 := bs.1 3 _ rfl; have s4 := bs.1 4 _ rfl; clear hb bt bs)
   go_ret
   exact ⟨ret_bool (by first | exact hr.out.symm | (rw [hr.out]; simp; done) | (rw [hr.out]; simp; omega)), hB⟩
theorem notOk_key {ky nm : ByteArray} {ts : List TaskP} {ss : List StP} {is : Int} (h : ¬ (1 ≤ ky.size ∧ ky.size ≤ 16)) : runB ky nm ts ss is = false := runB_no fun hh => h hh.key
theorem notOk_dag {ky nm : ByteArray} {ts : List TaskP} {ss : List StP} {is : Int} (h : ¬ rightG nm ts = 0) : runB ky nm ts ss is = false := runB_no fun hh => h hh.dag
theorem notOk_len {ky nm : ByteArray} {ts : List TaskP} {ss : List StP} {is : Int} (h : ¬ ss.length = ts.length) : runB ky nm ts ss is = false := runB_no fun hh => h hh.st.len
set_option maxRecDepth 20000 in
set_option maxHeartbeats 2000000 in
theorem runRight_any (ky nm : ByteArray) (ta : Option Addr) (tn tc : Nat) (is : Int) (sa : Option Addr) (n sc : Nat) (tv : List TaskV) (ss : List StP) (w : World) (hky : ky.size ≤ maxLen) (hT : IsT w ta tc tv) (htn : tn = tv.length) (hZ : IsZ w sa sc ss) (hn : n = ss.length) :
  Calls Try.prog 17 #[.agg #[.string ky, .string nm, .slice ta tn tc, .int .i64 is, .slice sa n sc]] w fun e w' => e = .returned (.bool (runB ky nm (plainT tv) ss is)) ∧ Below w.heap.size w w' := by
 have hB0 : Below w.heap.size w (w.alloc (.cells #[.string ky, .string nm, .slice ta tn tc, .int .i64 is, .slice sa n sc] 27)) := (Below.refl _ _).alloc (Nat.le_refl _) _
 have X : RunIn (w.alloc (.cells #[.string ky, .string nm, .slice ta tn tc, .int .i64 is, .slice sa n sc] 27)) w.heap.size ky nm ta tn tc is sa n sc tv ss := ⟨boxL_new w [.string ky, .string nm, .slice ta tn tc, .int .i64 is, .slice sa n sc] _ rfl, hT.below hB0, hZ.below hB0, htn, hn⟩
 have q0 := X.box.1 0 _ rfl
 have q1 := X.box.1 1 _ rfl
 have q2 := X.box.1 2 _ rfl
 have q4 := X.box.1 4 _ rfl
 have cK := fun W => isKey_any ky W hky
 have cD := fun W (h : Below w.heap.size w W) => right16_any nm ta tc tn tv W htn (hT.below h)
 by_cases hk : 1 ≤ ky.size ∧ ky.size ≤ 16
 ·
  rw [decide_eq_true hk] at cK
  by_cases hd : rightG nm (plainT tv) = 0
  ·
   rw [hd] at cD
   obtain ⟨h10, hp0, hin⟩ := inside_of htn hd
   by_cases hl : ss.length = (plainT tv).length
   ·
    have hnt : n = tn := by rw [hn, hl, plainT_length, htn]
    have hnq : ((n : Int) != (tn : Int)) = false := by simp; omega
    have HL : Hid (ss.length = (plainT tv).length) := hl
    have HNT : Hid (n = tn) := hnt
    have cA := fun W (h : Below w.heap.size w W) (hk : ∀ s ∈ ss, wfJ s.k) => areApart_any sa n sc ss W (hZ.below h) hn hk
    have cF := fun W (h : Below w.heap.size w W) => fits_any ky nm ta tn tc is sa n sc ss W (hZ.below h) hn
    have cP := fun (i : Nat) t s W (h : Below w.heap.size w W) ht hs => inPlace_any ky nm ta tn tc is sa n sc ss tv i t s W (hZ.below h) hn (hT.below h) htn ht hs (fun x hx => by rw [hnt]; exact hin i t ht x hx)
    have HN : Hid (n = ss.length) := hn
    have HT : Hid (tn = tv.length) := htn
    have HK : Hid ((1 ≤ ky.size ∧ ky.size ≤ 16) ∧ rightG nm (plainT tv) = 0) := ⟨hk, hd⟩
    clear hl hnt hT htn hZ hn hin hk hd
    go_enter Try.func17, Try.ntmps17
    go_wp2_with (first
     | (go_at_call 28; refine (cK _).mono ?_; rintro e w1 ⟨rfl, rfl⟩)
     | (go_at_call 29; refine (cD _ hB0).mono ?_; rintro e w2 ⟨rfl, hb⟩; replace X := X.below hb; have hB := Below.tr hB0 hb; clear hb; have q1 := X.box.1 1 _ rfl; have q2 := X.box.1 2 _ rfl; have q4 := X.box.1 4 _ rfl))
    go_loopw [28] (fun v wr => ∃ j : Nat, j ≤ n ∧ v = .int .i64 j ∧ RunIn wr w.heap.size ky nm ta tn tc is sa n sc tv ss ∧ Hid (∀ (i : Nat) s t, i < j → ss[i]? = some s → (plainT tv)[i]? = some t → rightT t.tries s = true ∧ placeB (plainT tv) ss i s.i = true) ∧ Below w.heap.size w wr) (fun v _ => n - (intOf v).toNat)
    case atStart => exact ⟨0, Nat.zero_le _, rfl, X, fun i s t h => absurd h (Nat.not_lt_zero _), hB⟩
    case round =>
     clear X hB
     obtain ⟨j, hj, rfl, X, HE, hB⟩ := hrel
     have x2 := X.box.1 2 _ rfl
     have x4 := X.box.1 4 _ rfl
     by_cases hlt : j < n
     ·
      have hlt' : (j : Int) < n := by omega
      have hltt : (j : Int) < tn := by have := HNT.out; omega
      obtain ⟨hb1, hb2, hb3, hb4⟩ := X.bounds
      obtain ⟨s, hs⟩ : ∃ s, ss[j]? = some s := ⟨_, List.getElem?_eq_getElem (by rw [← HN.out]; exact hlt)⟩
      obtain ⟨t, ht⟩ : ∃ t, tv[j]? = some t := ⟨_, List.getElem?_eq_getElem (by have := HNT.out; have := HT.out; omega)⟩
      obtain ⟨b, o, rfl, -⟩ := X.hZ.some (by have := HN.out; omega)
      obtain ⟨tb, to, rfl, -⟩ := X.hT.some (by have := HNT.out; have := HT.out; omega)
      obtain ⟨z0, z1, z2, z3, z4⟩ := X.hZ.at hs
      obtain ⟨y0, y1, y2, y3, -⟩ := X.hT.at ht
      have hr16 := X.hZ.text hs
      have hpl := plainT_get ht
      have cR := fun W => rightT_any t.a t.ns.length t.c t.tr t.wt t.le s.i s.t s.d s.k s.r W hr16
      have cQ := fun W h => cP j t s W h ht hs
      have HNX : Hid (∀ R Q : Bool, rightT t.tr s = R → placeB (plainT tv) ss j s.i = Q → (R && Q) = true → ∀ (i : Nat) s t, i < j + 1 → ss[i]? = some s → (plainT tv)[i]? = some t → rightT t.tries s = true ∧ placeB (plainT tv) ss i s.i = true) := by
       intro R Q h1 h2 h3 i s' t' hi hs' ht'
       by_cases hij : i = j
       ·
        subst hij
        rw [hs] at hs'; cases hs'
        rw [hpl] at ht'; cases ht'
        rw [Bool.and_eq_true] at h3
        exact ⟨h1.trans h3.1, h2.trans h3.2⟩
       ·
        exact HE.out i s' t' (by omega) hs' ht'
      have HBAD : Hid (∀ R Q : Bool, rightT t.tr s = R → placeB (plainT tv) ss j s.i = Q → (R && Q) = false → runB ky nm (plainT tv) ss is = false) := by
       intro R Q h1 h2 h3
       refine runB_no fun hh => ?_
       obtain ⟨g1, g2⟩ := ok_each hh.st hs hpl
       rw [show t.p.tries = t.tr from rfl, h1] at g1
       rw [h2] at g2
       rw [g1, g2] at h3
       cases h3
      obtain ⟨R, hR⟩ : ∃ R, rightT t.tr s = R := ⟨_, rfl⟩
      obtain ⟨Q, hQ⟩ : ∃ Q, placeB (plainT tv) ss j s.i = Q := ⟨_, rfl⟩
      have HNX' := HNX.out R Q hR hQ
      have HBAD' := HBAD.out R Q hR hQ
      have hR' : ∀ W, Calls Try.prog 42 #[.agg #[.slice t.a t.ns.length t.c, .int .i64 t.tr, .int .i64 t.wt, .int .i64 t.le], .agg #[.int .i64 s.i, .int .i64 s.t, .int .i64 s.d, .int .i64 s.k, .string s.r]] W fun e w' => e = .returned (.bool R) ∧ Below W.heap.size W w' := by
       intro W; have := cR W; rw [show (⟨s.i, s.t, s.d, s.k, s.r⟩ : StP) = s from rfl, hR] at this; exact this
      rw [hQ] at cQ
      obtain ⟨ta, hta⟩ : ∃ ta, ta = t.a := ⟨_, rfl⟩
      obtain ⟨tl, htl⟩ : ∃ tl, tl = t.ns.length := ⟨_, rfl⟩
      obtain ⟨tcc, htcc⟩ : ∃ tcc, tcc = t.c := ⟨_, rfl⟩
      obtain ⟨ttr, httr⟩ : ∃ ttr, ttr = t.tr := ⟨_, rfl⟩
      obtain ⟨twt, htwt⟩ : ∃ twt, twt = t.wt := ⟨_, rfl⟩
      obtain ⟨tle, htle⟩ : ∃ tle, tle = t.le := ⟨_, rfl⟩
      rw [← hta, ← htl, ← htcc, ← httr, ← htwt, ← htle] at hR'
      rw [← hta, ← htl, ← htcc] at y0
      rw [← httr] at y1
      rw [← htwt] at y2
      rw [← htle] at y3
      obtain ⟨si, hsi⟩ : ∃ si, si = s.i := ⟨_, rfl⟩
      obtain ⟨st, hst⟩ : ∃ st, st = s.t := ⟨_, rfl⟩
      obtain ⟨sd, hsd⟩ : ∃ sd, sd = s.d := ⟨_, rfl⟩
      obtain ⟨sk, hsk⟩ : ∃ sk, sk = s.k := ⟨_, rfl⟩
      obtain ⟨sr, hsr⟩ : ∃ sr, sr = s.r := ⟨_, rfl⟩
      rw [← hsi, ← hst, ← hsd, ← hsk, ← hsr] at hR'
      rw [← hsi] at z0
      rw [← hst] at z1
      rw [← hsd] at z2
      rw [← hsk] at z3
      rw [← hsr] at z4
      obtain ⟨Y, hY⟩ : ∃ Y, Y = wr.alloc (.cells #[.int .i64 si, .int .i64 st, .int .i64 sd, .int .i64 sk, .string sr] 52) := ⟨_, rfl⟩
      have bS : BoxL Y wr.heap.size [.int .i64 si, .int .i64 st, .int .i64 sd, .int .i64 sk, .string sr] := by rw [hY]; exact boxL_new wr _ _ rfl
      have XY : RunIn Y w.heap.size ky nm (some ⟨tb, to, none⟩) tn tc is (some ⟨b, o, none⟩) n sc tv ss := by rw [hY]; exact X.alloc _
      have hBY : Below w.heap.size w Y := by rw [hY]; exact hB.alloc hB.size _
      have k0 : Y.cell? ⟨tb, to + j * 4, none⟩ = some (.slice ta tl tcc) := by rw [hY]; exact cell_alloc y0 _
      have k1 : Y.cell? ⟨tb, to + j * 4 + 1, none⟩ = some (.int .i64 ttr) := by rw [hY]; exact cell_alloc y1 _
      have k2 : Y.cell? ⟨tb, to + j * 4 + 2, none⟩ = some (.int .i64 twt) := by rw [hY]; exact cell_alloc y2 _
      have k3 : Y.cell? ⟨tb, to + j * 4 + 3, none⟩ = some (.int .i64 tle) := by rw [hY]; exact cell_alloc y3 _
      clear cP cR HNX HBAD hR hQ hta htl htcc httr htwt htle hsi hst hsd hsk hsr hs ht hpl hr16 X hB HE hlt hj y0 y1 y2 y3 x2
      go_wp2
      rw [← hY]
      clear hY z0 z1 z2 z3 z4 x4
      replace bS : BoxL Y.drew wr.heap.size [.int .i64 si, .int .i64 st, .int .i64 sd, .int .i64 sk, .string sr] := bS
      replace XY := XY.drew
      replace hBY := hBY.drew
      replace k0 : Y.drew.cell? ⟨tb, to + j * 4, none⟩ = some (.slice ta tl tcc) := k0
      replace k1 : Y.drew.cell? ⟨tb, to + j * 4 + 1, none⟩ = some (.int .i64 ttr) := k1
      replace k2 : Y.drew.cell? ⟨tb, to + j * 4 + 2, none⟩ = some (.int .i64 twt) := k2
      replace k3 : Y.drew.cell? ⟨tb, to + j * 4 + 3, none⟩ = some (.int .i64 tle) := k3
      cases R
      ·
       have hbad := HBAD' rfl
       clear HBAD' HNX'
       refine wp_region_noPanic ?_
       refine wp_region_held_drew (S := (fun V => (V.cell? ⟨w.heap.size, 0, none⟩ = some (.string ky) ∧ V.cell? ⟨w.heap.size, 1, none⟩ = some (.string nm) ∧ V.cell? ⟨w.heap.size, 2, none⟩ = some (.slice (some ⟨tb, to, none⟩) tn tc) ∧ V.cell? ⟨w.heap.size, 3, none⟩ = some (.int .i64 is) ∧ V.cell? ⟨w.heap.size, 4, none⟩ = some (.slice (some ⟨b, o, none⟩) n sc)) ∧ (V.cell? ⟨tb, to + j * 4, none⟩ = some (.slice ta tl tcc) ∧ V.cell? ⟨tb, to + j * 4 + 1, none⟩ = some (.int .i64 ttr) ∧ V.cell? ⟨tb, to + j * 4 + 2, none⟩ = some (.int .i64 twt) ∧ V.cell? ⟨tb, to + j * 4 + 3, none⟩ = some (.int .i64 tle)) ∧ (V.cell? ⟨wr.heap.size, 0, none⟩ = some (.int .i64 si) ∧ V.cell? ⟨wr.heap.size, 1, none⟩ = some (.int .i64 st) ∧ V.cell? ⟨wr.heap.size, 2, none⟩ = some (.int .i64 sd) ∧ V.cell? ⟨wr.heap.size, 3, none⟩ = some (.int .i64 sk) ∧ V.cell? ⟨wr.heap.size, 4, none⟩ = some (.string sr)))) (by kernel_rfl) (by exact ⟨⟨XY.box.1 0 _ rfl, XY.box.1 1 _ rfl, XY.box.1 2 _ rfl, XY.box.1 3 _ rfl, XY.box.1 4 _ rfl⟩, ⟨k0, k1, k2, k3⟩, bS.1 0 _ rfl, bS.1 1 _ rfl, bS.1 2 _ rfl, bS.1 3 _ rfl, bS.1 4 _ rfl⟩) (fun hHeld => ?_)
       refine take_at (i := 0) (v := ?_) rfl (by kernel_rfl) (by kernel_rfl) (by kernel_rfl) (fun _ _ _ h => h) (Or.inl ⟨by rfl, ?_⟩) (by assumption) ?_
       rotate_left 1
       ·
        (intro w hSw; (try dsimp only at hSw); go_simp; (try with_reducible rfl))
       try go_frame
       refine take_at (i := 1) (v := ?_) rfl (by kernel_rfl) (by kernel_rfl) (by kernel_rfl) (fun _ _ _ h => h) (Or.inl ⟨by rfl, ?_⟩) (by assumption) ?_
       rotate_left 1
       ·
        (intro w hSw; (try dsimp only at hSw); go_simp; (try with_reducible rfl))
       try go_frame
       refine take_at (i := 2) (v := ?_) rfl (by kernel_rfl) (by kernel_rfl) (by kernel_rfl) (fun _ _ _ h => h) (Or.inl ⟨by rfl, ?_⟩) (by assumption) ?_
       rotate_left 1
       ·
        (intro w hSw; (try dsimp only at hSw); go_simp; (try with_reducible rfl))
       try go_frame
       refine take_at (i := 3) (v := ?_) rfl (by kernel_rfl) (by kernel_rfl) (by kernel_rfl) (fun _ _ _ h => h) (Or.inl ⟨by rfl, ?_⟩) (by assumption) ?_
       rotate_left 1
       ·
        (intro w hSw; (try dsimp only at hSw); go_simp; (try with_reducible rfl))
       try go_frame
       refine take_at (i := 4) (v := ?_) rfl (by kernel_rfl) (by kernel_rfl) (by kernel_rfl) (fun _ _ _ h => h) (Or.inl ⟨by rfl, ?_⟩) (by assumption) ?_
       rotate_left 1
       ·
        (intro w hSw; (try dsimp only at hSw); go_simp; (try with_reducible rfl))
       try go_frame
       refine take_at (i := 5) (v := ?_) rfl (by kernel_rfl) (by kernel_rfl) (by kernel_rfl) (fun _ _ _ h => h) (Or.inl ⟨by rfl, ?_⟩) (by assumption) ?_
       rotate_left 1
       ·
        (intro w hSw; (try dsimp only at hSw); go_simp; (try with_reducible rfl))
       try go_frame
       refine take_at (i := 6) (v := ?_) rfl (by kernel_rfl) (by kernel_rfl) (by kernel_rfl) (fun _ _ _ h => h) (Or.inl ⟨by rfl, ?_⟩) (by assumption) ?_
       rotate_left 1
       ·
        (intro w hSw; (try dsimp only at hSw); go_simp; (try with_reducible rfl))
       try go_frame
       refine wpAnyH_ready (rs := [7]) (by kernel_rfl) (by simp) ?_
       refine cons_at (i := 7) rfl (fun K hK => ?_) AllReadyH.nil
       go_simp
       go_at_call 42; refine (hR' _).mono ?_; rintro e v1 ⟨rfl, hb⟩; replace XY := XY.below hb; replace bS := bS.below hb; replace k0 := cell_below hb k0; replace k1 := cell_below hb k1; replace k2 := cell_below hb k2; replace k3 := cell_below hb k3; replace hBY := Below.tr hBY hb; clear hb
       refine hK.out _ _ (by exact ⟨⟨XY.box.1 0 _ rfl, XY.box.1 1 _ rfl, XY.box.1 2 _ rfl, XY.box.1 3 _ rfl, XY.box.1 4 _ rfl⟩, ⟨k0, k1, k2, k3⟩, bS.1 0 _ rfl, bS.1 1 _ rfl, bS.1 2 _ rfl, bS.1 3 _ rfl, bS.1 4 _ rfl⟩) (fun hHeld => ?_)
       clear hK K
       refine take_at (i := 8) (v := ?_) rfl (by kernel_rfl) (by kernel_rfl) (by kernel_rfl) (fun _ _ _ h => h) (Or.inl ⟨by rfl, ?_⟩) (by assumption) ?_
       rotate_left 1
       ·
        (intro w hSw; (try dsimp only at hSw); go_simp; (try with_reducible rfl))
       try go_frame
       refine take_at (i := 9) (v := ?_) rfl (by kernel_rfl) (by kernel_rfl) (by kernel_rfl) (fun _ _ _ h => h) (Or.inl ⟨by rfl, ?_⟩) (by assumption) ?_
       rotate_left 1
       ·
        (intro w hSw; (try dsimp only at hSw); go_simp; (try with_reducible rfl))
       try go_frame
       refine take_at (i := 10) (v := undef) rfl (by kernel_rfl) (by kernel_rfl) (by kernel_rfl) (fun _ _ _ h => h) (Or.inr ⟨by rfl, rfl⟩) (by assumption) ?_
       try go_frame
       refine take_at (i := 11) (v := undef) rfl (by kernel_rfl) (by kernel_rfl) (by kernel_rfl) (fun _ _ _ h => h) (Or.inr ⟨by rfl, rfl⟩) (by assumption) ?_
       try go_frame
       refine take_at (i := 12) (v := undef) rfl (by kernel_rfl) (by kernel_rfl) (by kernel_rfl) (fun _ _ _ h => h) (Or.inr ⟨by rfl, rfl⟩) (by assumption) ?_
       try go_frame
       refine take_at (i := 13) (v := undef) rfl (by kernel_rfl) (by kernel_rfl) (by kernel_rfl) (fun _ _ _ h => h) (Or.inr ⟨by rfl, rfl⟩) (by assumption) ?_
       try go_frame
       refine take_at (i := 14) (v := ?_) rfl (by kernel_rfl) (by kernel_rfl) (by kernel_rfl) (fun _ _ _ h => h) (Or.inl ⟨by rfl, ?_⟩) (by assumption) ?_
       rotate_left 1
       ·
        (intro w hSw; (try dsimp only at hSw); go_simp; (try with_reducible rfl))
       try go_frame
       refine wpAnyH_done (by kernel_rfl) ?_ _
       refine NoPanic.normal ?_
       go_wp2
       go_ret
       exact ⟨ret_bool hbad.symm, hBY⟩
      ·
       cases Q
       ·
        have hbad := HBAD' rfl
        clear HBAD' HNX'
        go_region_held3 (fun V => (V.cell? ⟨w.heap.size, 0, none⟩ = some (.string ky) ∧ V.cell? ⟨w.heap.size, 1, none⟩ = some (.string nm) ∧ V.cell? ⟨w.heap.size, 2, none⟩ = some (.slice (some ⟨tb, to, none⟩) tn tc) ∧ V.cell? ⟨w.heap.size, 3, none⟩ = some (.int .i64 is) ∧ V.cell? ⟨w.heap.size, 4, none⟩ = some (.slice (some ⟨b, o, none⟩) n sc)) ∧ (V.cell? ⟨tb, to + j * 4, none⟩ = some (.slice ta tl tcc) ∧ V.cell? ⟨tb, to + j * 4 + 1, none⟩ = some (.int .i64 ttr) ∧ V.cell? ⟨tb, to + j * 4 + 2, none⟩ = some (.int .i64 twt) ∧ V.cell? ⟨tb, to + j * 4 + 3, none⟩ = some (.int .i64 tle)) ∧ (V.cell? ⟨wr.heap.size, 0, none⟩ = some (.int .i64 si) ∧ V.cell? ⟨wr.heap.size, 1, none⟩ = some (.int .i64 st) ∧ V.cell? ⟨wr.heap.size, 2, none⟩ = some (.int .i64 sd) ∧ V.cell? ⟨wr.heap.size, 3, none⟩ = some (.int .i64 sk) ∧ V.cell? ⟨wr.heap.size, 4, none⟩ = some (.string sr))) (exact ⟨⟨XY.box.1 0 _ rfl, XY.box.1 1 _ rfl, XY.box.1 2 _ rfl, XY.box.1 3 _ rfl, XY.box.1 4 _ rfl⟩, ⟨k0, k1, k2, k3⟩, bS.1 0 _ rfl, bS.1 1 _ rfl, bS.1 2 _ rfl, bS.1 3 _ rfl, bS.1 4 _ rfl⟩) (first
         | (go_at_call 42; refine (hR' _).mono ?_; rintro e v1 ⟨rfl, hb⟩; replace XY := XY.below hb; replace bS := bS.below hb; replace k0 := cell_below hb k0; replace k1 := cell_below hb k1; replace k2 := cell_below hb k2; replace k3 := cell_below hb k3; replace hBY := Below.tr hBY hb; clear hb)
         | (go_at_call 43; refine (cQ _ hBY).mono ?_; rintro e v2 ⟨rfl, hb⟩; replace XY := XY.below hb; replace bS := bS.below hb; replace k0 := cell_below hb k0; replace k1 := cell_below hb k1; replace k2 := cell_below hb k2; replace k3 := cell_below hb k3; replace hBY := Below.tr hBY hb; clear hb))
        go_wp2
        go_ret
        exact ⟨ret_bool hbad.symm, hBY⟩
       ·
        have hnx : Hid _ := HNX' rfl
        clear HBAD' HNX'
        go_region_held3 (fun V => (V.cell? ⟨w.heap.size, 0, none⟩ = some (.string ky) ∧ V.cell? ⟨w.heap.size, 1, none⟩ = some (.string nm) ∧ V.cell? ⟨w.heap.size, 2, none⟩ = some (.slice (some ⟨tb, to, none⟩) tn tc) ∧ V.cell? ⟨w.heap.size, 3, none⟩ = some (.int .i64 is) ∧ V.cell? ⟨w.heap.size, 4, none⟩ = some (.slice (some ⟨b, o, none⟩) n sc)) ∧ (V.cell? ⟨tb, to + j * 4, none⟩ = some (.slice ta tl tcc) ∧ V.cell? ⟨tb, to + j * 4 + 1, none⟩ = some (.int .i64 ttr) ∧ V.cell? ⟨tb, to + j * 4 + 2, none⟩ = some (.int .i64 twt) ∧ V.cell? ⟨tb, to + j * 4 + 3, none⟩ = some (.int .i64 tle)) ∧ (V.cell? ⟨wr.heap.size, 0, none⟩ = some (.int .i64 si) ∧ V.cell? ⟨wr.heap.size, 1, none⟩ = some (.int .i64 st) ∧ V.cell? ⟨wr.heap.size, 2, none⟩ = some (.int .i64 sd) ∧ V.cell? ⟨wr.heap.size, 3, none⟩ = some (.int .i64 sk) ∧ V.cell? ⟨wr.heap.size, 4, none⟩ = some (.string sr))) (exact ⟨⟨XY.box.1 0 _ rfl, XY.box.1 1 _ rfl, XY.box.1 2 _ rfl, XY.box.1 3 _ rfl, XY.box.1 4 _ rfl⟩, ⟨k0, k1, k2, k3⟩, bS.1 0 _ rfl, bS.1 1 _ rfl, bS.1 2 _ rfl, bS.1 3 _ rfl, bS.1 4 _ rfl⟩) (first
         | (go_at_call 42; refine (hR' _).mono ?_; rintro e v1 ⟨rfl, hb⟩; replace XY := XY.below hb; replace bS := bS.below hb; replace k0 := cell_below hb k0; replace k1 := cell_below hb k1; replace k2 := cell_below hb k2; replace k3 := cell_below hb k3; replace hBY := Below.tr hBY hb; clear hb)
         | (go_at_call 43; refine (cQ _ hBY).mono ?_; rintro e v2 ⟨rfl, hb⟩; replace XY := XY.below hb; replace bS := bS.below hb; replace k0 := cell_below hb k0; replace k1 := cell_below hb k1; replace k2 := cell_below hb k2; replace k3 := cell_below hb k3; replace hBY := Below.tr hBY hb; clear hb))
        go_wp2
        go_roundw
        case rel => exact ⟨j + 1, by omega, by go_num, XY, hnx, hBY⟩
        case measure => simp [intOf]; omega
     ·
      obtain rfl : j = n := by omega
      have he := HE.out
      have hE : Hid ((apartB ss && fitsC ss is) = runB ky nm (plainT tv) ss is) := by
       show _ = _
       rw [Bool.eq_iff_iff, runB_iff, ok_own HL.out fun i s t hs ht => he i s t (by rw [HN.out]; exact (List.getElem?_eq_some_iff.1 hs).1) hs ht]
       exact ⟨fun h => ⟨HK.out.1, HK.out.2, h⟩, fun h => h.st⟩
      have hwf : ∀ s ∈ ss, wfJ s.k := by
       intro s hs
       obtain ⟨i, hi⟩ := List.getElem?_of_mem hs
       have hil := (List.getElem?_eq_some_iff.1 hi).1
       have := (right_held (he i s _ (by rw [HN.out]; exact hil) hi (List.getElem?_eq_getElem (by rw [← HL.out]; exact hil))).1).1
       exact wfJ_of (by omega)
      have cA' := fun W h => cA W h hwf
      have hx : ¬ (j : Int) < j := by omega
      have x0 := X.box.1 0 _ rfl
      have x1 := X.box.1 1 _ rfl
      have x3 := X.box.1 3 _ rfl
      clear cA cP HE he hwf
      generalize apartB ss = A at *
      generalize fitsC ss is = F at *
      cases A <;>
      ·
       go_wp2_with (first
        | (go_at_call 44; refine (cA' _ hB).mono ?_; rintro e w3 ⟨rfl, hb⟩; clear x0 x1 x2 x3 x4; replace X := X.below hb; replace hB := Below.tr hB hb; clear hb; have x0 := X.box.1 0 _ rfl; have x1 := X.box.1 1 _ rfl; have x2 := X.box.1 2 _ rfl; have x3 := X.box.1 3 _ rfl; have x4 := X.box.1 4 _ rfl)
        | (go_at_call 45; refine (cF _ hB).mono ?_; rintro e w4 ⟨rfl, hb⟩; replace hB := Below.tr hB hb; clear hb))
       go_ret
       exact ⟨ret_bool (by rw [← hE.out]; first | rfl | simp), hB⟩
   ·
    have hl' : runB ky nm (plainT tv) ss is = false := notOk_len hl
    have hnq : ((n : Int) != (tn : Int)) = true := by rw [hn, htn, ← plainT_length]; simp; omega
    have HL : Hid (runB ky nm (plainT tv) ss is = false) := hl'
    clear hl hl' hT hZ htn hn hin hk hd
    go_enter Try.func17, Try.ntmps17
    go_wp2_with (first
     | (go_at_call 28; refine (cK _).mono ?_; rintro e w1 ⟨rfl, rfl⟩)
     | (go_at_call 29; refine (cD _ hB0).mono ?_; rintro e w2 ⟨rfl, hb⟩; replace X := X.below hb; have hB := Below.tr hB0 hb; clear hb; have q1 := X.box.1 1 _ rfl; have q2 := X.box.1 2 _ rfl; have q4 := X.box.1 4 _ rfl))
    go_ret
    exact ⟨ret_bool HL.out.symm, hB⟩
  ·
   have HL : Hid (runB ky nm (plainT tv) ss is = false) := notOk_dag hd
   have hd' : (rightG nm (plainT tv) == 0) = false := by simpa using hd
   generalize rightG nm (plainT tv) = G at *
   clear hT hZ htn hn hk
   go_enter Try.func17, Try.ntmps17
   go_wp2_with (first
    | (go_at_call 28; refine (cK _).mono ?_; rintro e w1 ⟨rfl, rfl⟩)
    | (go_at_call 29; refine (cD _ hB0).mono ?_; rintro e w2 ⟨rfl, hb⟩; replace X := X.below hb; have hB := Below.tr hB0 hb; clear hb; have q1 := X.box.1 1 _ rfl; have q2 := X.box.1 2 _ rfl; have q4 := X.box.1 4 _ rfl))
   go_ret
   exact ⟨ret_bool HL.out.symm, hB⟩
 ·
  have HL : Hid (runB ky nm (plainT tv) ss is = false) := notOk_key hk
  rw [decide_eq_false hk] at cK
  clear hT hZ htn hn hk
  go_enter Try.func17, Try.ntmps17
  go_wp2_with (first
   | (go_at_call 28; refine (cK _).mono ?_; rintro e w1 ⟨rfl, rfl⟩)
   | (go_at_call 29; refine (cD _ hB0).mono ?_; rintro e w2 ⟨rfl, hb⟩; replace X := X.below hb; have hB := Below.tr hB0 hb; clear hb; have q1 := X.box.1 1 _ rfl; have q2 := X.box.1 2 _ rfl; have q4 := X.box.1 4 _ rfl))
  go_ret
  exact ⟨ret_bool HL.out.symm, hB0⟩
set_option maxRecDepth 20000 in
set_option maxHeartbeats 2000000 in
theorem expireT_any (ta : Option Addr) (tl tc : Nat) (tr wt le : Int) (i t d k : Int) (r : ByteArray) (now : Int) (w : World) (ht : t ≤ 9223372036854775807) :
  Calls Try.prog 38 #[.agg #[.slice ta tl tc, .int .i64 tr, .int .i64 wt, .int .i64 le], .agg #[.int .i64 i, .int .i64 t, .int .i64 d, .int .i64 k, .string r], .int .i64 now] w fun e w' => e = .returned (vT (expireT tr wt ⟨i, t, d, k, r⟩ now)) ∧ Below w.heap.size w w' := by
 by_cases h : i = 2
 ·
  subst h
  have c2 := isOverT_any 2 t d k r now
  by_cases ho : d ≤ untF now []
  ·
   rw [show expireT tr wt ⟨2, t, d, k, r⟩ now = failT tr wt ⟨2, t, d, k, r⟩ d from if_pos ⟨rfl, ho⟩]
   rw [decide_eq_true ho] at c2
   clear ho
   by_cases hl : t < tr
   ·
    rw [show failT tr wt ⟨2, t, d, k, r⟩ d = ⟨1, t, untF d [afterF wt t], 0, r⟩ by unfold failT; rw [if_pos rfl, if_pos hl]]
    have c3 := fun W => failLow_any ta tl tc tr wt le t d k r d W ht hl
    generalize untF d [afterF wt t] = u at *
    generalize afterF wt t = v at *
    go_enter Try.func38, Try.ntmps38
    go_wp2_with (first
     | (go_at_call 80; refine (c2 _).mono ?_; rintro e w' ⟨rfl, rfl⟩)
     | (go_at_call 62; refine (c3 _).mono ?_; rintro e w' ⟨rfl, rfl⟩))
    exact bodyPost_ret (v := .agg #[.int .i64 1, .int .i64 t, .int .i64 u, .int .i64 0, .string r]) (by simp [results, Try.results38, go_sem]) rfl ⟨rfl, (((((bel4 _ _ _ _ _).alloc (by simp; omega) _).alloc (by simp; omega) _).alloc (by simp; omega) _).alloc (by simp; omega) _).drew⟩
   ·
    rw [show failT tr wt ⟨2, t, d, k, r⟩ d = ⟨4, t, 0, 0, r⟩ by unfold failT; rw [if_pos rfl, if_neg hl]]
    have c3 := fun W => failHigh_any ta tl tc tr wt le t d k r d W hl
    go_enter Try.func38, Try.ntmps38
    go_wp2_with (first
     | (go_at_call 80; refine (c2 _).mono ?_; rintro e w' ⟨rfl, rfl⟩)
     | (go_at_call 62; refine (c3 _).mono ?_; rintro e w' ⟨rfl, rfl⟩))
    exact bodyPost_ret (v := .agg #[.int .i64 4, .int .i64 t, .int .i64 0, .int .i64 0, .string r]) (by simp [results, Try.results38, go_sem]) rfl ⟨rfl, ((((bel4 _ _ _ _ _).alloc (by simp; omega) _).alloc (by simp; omega) _).alloc (by simp; omega) _).drew⟩
  ·
   rw [show expireT tr wt ⟨2, t, d, k, r⟩ now = ⟨2, t, d, k, r⟩ from if_neg (fun hh => ho hh.2)]
   rw [decide_eq_false ho] at c2
   clear ho
   go_enter Try.func38, Try.ntmps38
   go_wp2_with (go_at_call 80; refine (c2 _).mono ?_; rintro e w' ⟨rfl, rfl⟩)
   exact bodyPost_ret (v := .agg #[.int .i64 2, .int .i64 t, .int .i64 d, .int .i64 k, .string r]) (by simp [results, Try.results38, go_sem]) rfl ⟨rfl, (bel4 _ _ _ _ _).drew⟩
 ·
  rw [show expireT tr wt ⟨i, t, d, k, r⟩ now = ⟨i, t, d, k, r⟩ from if_neg (fun hh => h hh.1)]
  have h' : (i != 2) = true := by simpa using h
  go_enter Try.func38, Try.ntmps38
  go_wp2
  exact bodyPost_ret (v := .agg #[.int .i64 i, .int .i64 t, .int .i64 d, .int .i64 k, .string r]) (by simp [results, Try.results38, go_sem]) rfl ⟨rfl, bel3 _ _ _ _⟩
end Go.Proofs.Ytdpljpjbomhccaa
namespace Go.Proofs.Ytdpljpjbomhccaa
open Go.RowKit Plain Anylast
set_option linter.unusedVariables false
noncomputable def heldW (V : World) (h n : Nat) : Nat := (List.range n).countP fun j => @decide (V.cell? ⟨h, j * 5, none⟩ = some (.int .i64 2)) (Classical.propDecidable _)
theorem heldW_is {V : World} {h c n : Nat} {ss : List StP} (r : RowZ V h 0 c ss) (hn : n = ss.length) : heldW V h n = heldN ss := by
 subst hn
 unfold heldW heldN
 have key : ∀ m, m ≤ ss.length → (List.range m).countP (fun j => @decide (V.cell? ⟨h, j * 5, none⟩ = some (.int .i64 2)) (Classical.propDecidable _)) = (ss.take m).countP fun s => decide (s.i = 2) := by
  intro m
  induction m with
  | zero => intro _; rfl
  | succ m ih =>
   intro hm
   obtain ⟨s, hs⟩ : ∃ s, ss[m]? = some s := ⟨_, List.getElem?_eq_getElem hm⟩
   rw [List.range_succ, List.countP_append, ih (by omega), List.take_add_one, hs, List.countP_append]
   congr 1
   have z := (r.at hs).1
   rw [Nat.zero_add] at z
   have e : (V.cell? ⟨h, m * 5, none⟩ = some (.int .i64 2)) ↔ s.i = 2 := by
    rw [z]
    constructor
    ·
     intro hh
     have h1 := Option.some.inj hh
     injection h1
    ·
     intro hh; rw [hh]
   simp only [List.countP_cons, List.countP_nil, Option.toList, e]
 have := key ss.length (Nat.le_refl _)
 rw [List.take_length] at this
 exact this
theorem fail_text {tr wt : Int} {s : StP} {now : Int} (h : s.r.size ≤ maxLen) : (failT tr wt s now).r.size ≤ maxLen := by
 unfold failT
 split
 ·
  split <;> exact h
 ·
  show (⟨#[]⟩ : ByteArray).size ≤ maxLen
  unfold maxLen
  exact Nat.zero_le _
def setV (z g h n cap capS : Nat) (i : Nat) (t : Value) (s x : StP) (now : Int) : Nat → Value
 | 0 => .pointer (some ⟨z, 4, none⟩) | 1 => .slice (some ⟨h, 0, none⟩) n capS | 2 => .int .i64 i | 3 => .pointer (some ⟨z, 1, none⟩) | 4 => .pointer (some ⟨z, 2, none⟩) | 5 => .slice (some ⟨g, 0, none⟩) n cap
 | 6 => .int .i64 i | 7 => .pointer (some ⟨g, i * 4, none⟩) | 8 => t | 9 => .pointer (some ⟨z, 4, none⟩) | 10 => .slice (some ⟨h, 0, none⟩) n capS | 11 => .int .i64 i
 | 12 => .pointer (some ⟨h, i * 5, none⟩) | 13 => vT s | 14 => .int .i64 now | 15 => vT x | 16 => .pointer (some ⟨h, i * 5, none⟩) | _ => undef
def SettledC (w : World) (ky nm : ByteArray) (is : Int) (u : Int) (tv : List TaskV) (ss : List StP) (e : Ending) (w' : World) : Prop :=
 ∃ g h n cap capS tw, e = .returned (.tuple #[.agg #[.string ky, .string nm, .slice (some ⟨g, 0, none⟩) n cap, .int .i64 (settleS (plainT tv) u (ss, is)).2, .slice (some ⟨h, 0, none⟩) n capS], .int .i64 0]) ∧ plainT tw = plainT tv ∧ OwnRun w' w.heap.size g h n cap capS tw (settleS (plainT tv) u (ss, is)).1 ∧ Below w.heap.size w w'
set_option maxRecDepth 20000 in
set_option maxHeartbeats 4000000 in
theorem settleBad_any (ky nm : ByteArray) (ta : Option Addr) (tn tc : Nat) (is : Int) (sa : Option Addr) (n sc : Nat) (tv : List TaskV) (ss : List StP) (now : Int) (w : World) (hky : ky.size ≤ maxLen) (hT : IsT w ta tc tv) (htn : tn = tv.length) (hZ : IsZ w sa sc ss) (hn : n = ss.length) (hno : runB ky nm (plainT tv) ss is = false) :
  Calls Try.prog 14 #[.agg #[.string ky, .string nm, .slice ta tn tc, .int .i64 is, .slice sa n sc], .int .i64 now] w fun e w' => e = .returned (.tuple #[.agg #[.string ⟨#[]⟩, .string ⟨#[]⟩, .slice none 0 0, .int .i64 0, .slice none 0 0], .int .i64 1]) ∧ Below w.heap.size w w' := by
 obtain ⟨W0, hW0⟩ : ∃ W0, W0 = (w.alloc (.cells #[.string ky, .string nm, .slice ta tn tc, .int .i64 is, .slice sa n sc] 27)).alloc (.cells #[.string ⟨#[]⟩, .string ⟨#[]⟩, .slice none 0 0, .int .i64 0, .slice none 0 0] 27) := ⟨_, rfl⟩
 have hB0 : Below w.heap.size w W0 := by rw [hW0]; exact bel2 w _ _
 have BX : BoxL W0 w.heap.size [.string ky, .string nm, .slice ta tn tc, .int .i64 is, .slice sa n sc] := by rw [hW0]; exact (boxL_new w [.string ky, .string nm, .slice ta tn tc, .int .i64 is, .slice sa n sc] _ rfl).alloc _
 have BY : BoxL W0 (w.heap.size + 1) [.string ⟨#[]⟩, .string ⟨#[]⟩, .slice none 0 0, .int .i64 0, .slice none 0 0] := by rw [hW0]; exact boxL_new _ [.string ⟨#[]⟩, .string ⟨#[]⟩, .slice none 0 0, .int .i64 0, .slice none 0 0] _ (by simp)
 have cR := runRight_any ky nm ta tn tc is sa n sc tv ss W0 hky (hT.below hB0) htn (hZ.below hB0) hn
 rw [hno] at cR
 have f0 := BX.1 0 _ rfl
 have f1 := BX.1 1 _ rfl
 have f2 := BX.1 2 _ rfl
 have f3 := BX.1 3 _ rfl
 have f4 := BX.1 4 _ rfl
 clear hT htn hZ hn hno
 go_enter Try.func14, Try.ntmps14
 rw [hW0] at f0 f1 f2 f3 f4
 go_wp2_with (go_at_call 17; rw [← hW0]; refine cR.mono ?_; rintro e w1 ⟨rfl, hb⟩; have BY1 := BY.below hb; have hB := Below.tr hB0 hb; have v0 := BY1.1 0 _ rfl; have v1 := BY1.1 1 _ rfl; have v2 := BY1.1 2 _ rfl; have v3 := BY1.1 3 _ rfl; have v4 := BY1.1 4 _ rfl; have d0 := BY1.2 0 (by simp); have d1 := BY1.2 1 (by simp); have d2 := BY1.2 2 (by simp); have d3 := BY1.2 3 (by simp); have d4 := BY1.2 4 (by simp))
 obtain ⟨Z, hZ⟩ : ∃ Z, Z = (((((w1.setCell ⟨w.heap.size + 1, 0, none⟩ (.string ⟨#[]⟩)).setCell ⟨w.heap.size + 1, 1, none⟩ (.string ⟨#[]⟩)).setCell ⟨w.heap.size + 1, 2, none⟩ (.slice none 0 0)).setCell ⟨w.heap.size + 1, 3, none⟩ (.int .i64 0)).setCell ⟨w.heap.size + 1, 4, none⟩ (.slice none 0 0)) := ⟨_, rfl⟩
 have BZ : BoxL Z (w.heap.size + 1) [.string ⟨#[]⟩, .string ⟨#[]⟩, .slice none 0 0, .int .i64 0, .slice none 0 0] := by rw [hZ]; exact boxL_set5 BY1 _ _ _ _ _
 have hBZ : Below w.heap.size w Z := by rw [hZ]; exact below_setT hB (Nat.le_succ _) _ _ _ _ _
 rw [← hZ]
 have r0 := BZ.1 0 _ rfl; have r1 := BZ.1 1 _ rfl; have r2 := BZ.1 2 _ rfl; have r3 := BZ.1 3 _ rfl; have r4 := BZ.1 4 _ rfl
 exact bodyPost_ret (v := .tuple #[.agg #[.string ⟨#[]⟩, .string ⟨#[]⟩, .slice none 0 0, .int .i64 0, .slice none 0 0], .int .i64 1]) (by simp [results, Try.results14, go_sem, r0, r1, r2, r3, r4]) rfl ⟨rfl, hBZ⟩
theorem tasks_of {s : ByteArray} {tv : List TaskV} (h : rightG s (plainT tv) = 0) {t : TaskV} (ht : t ∈ tv) : t.ns.length ≤ 4096 ∧ 1 ≤ t.tr ∧ t.tr ≤ 8 := by
 obtain ⟨h1, -, -, h4, -⟩ := rightG_ok h
 obtain ⟨j, hj⟩ := List.getElem?_of_mem ht
 have := tasksB_at h4 (plainT_get hj)
 unfold taskB at this
 simp only [Bool.and_eq_true, decide_eq_true_eq] at this
 obtain ⟨a, b, c, -⟩ := this
 rw [plainT_length] at a h1
 refine ⟨?_, b, c⟩
 rcases needsB_len a with hl | hl
 ·
  have : (t.ns.length : Int) ≤ tv.length - 0 := hl
  omega
 ·
  have : t.ns = [] := hl
  rw [this]
  exact Nat.zero_le _
theorem settle_step (ts : List TaskP) (u : Int) (x : List StP × Int) : settleS ts u (stepS ts u x) = settleS ts u x := by
 show againS (stepS ts u) (stepS ts u x).1.length (stepS ts u x) = _
 rw [step_len]
 have e : againS (stepS ts u) x.1.length (stepS ts u x) = againS (stepS ts u) (x.1.length + 1) x := rfl
 rw [e, again_add]
 show stepS ts u (settleS ts u x) = settleS ts u x
 exact step_fix (settle_none ts u x)
set_option maxRecDepth 20000 in
set_option maxHeartbeats 4000000 in
theorem settle_any (ky nm : ByteArray) (ta : Option Addr) (tn tc : Nat) (is : Int) (sa : Option Addr) (n sc : Nat) (tv : List TaskV) (ss : List StP) (now : Int) (w : World) (hT : IsT w ta tc tv) (htn : tn = tv.length) (hZ : IsZ w sa sc ss) (hn : n = ss.length) (hOk : RunOk ky nm (plainT tv) ss is) :
  Calls Try.prog 14 #[.agg #[.string ky, .string nm, .slice ta tn tc, .int .i64 is, .slice sa n sc], .int .i64 now] w fun e w' => SettledC w ky nm is (untF now []) tv ss e w' := by
 have hnt : n = tn := by rw [hn, hOk.st.len, plainT_length, htn]
 subst hnt
 obtain ⟨h10, h0, hin⟩ := inside_of htn hOk.dag
 obtain ⟨tb, to, rfl, -⟩ := hT.some (by omega)
 obtain ⟨sb, so, rfl, -⟩ := hZ.some (by omega)
 have hky : ky.size ≤ maxLen := by have := hOk.key.2; unfold maxLen; omega
 obtain ⟨U, hU⟩ : ∃ U, U = untF now [] := ⟨_, rfl⟩
 obtain ⟨W0, hW0⟩ : ∃ W0, W0 = (w.alloc (.cells #[.string ky, .string nm, .slice (some ⟨tb, to, none⟩) n tc, .int .i64 is, .slice (some ⟨sb, so, none⟩) n sc] 27)).alloc (.cells #[.string ⟨#[]⟩, .string ⟨#[]⟩, .slice none 0 0, .int .i64 0, .slice none 0 0] 27) := ⟨_, rfl⟩
 have hB0 : Below w.heap.size w W0 := by rw [hW0]; exact bel2 w _ _
 have BX : BoxL W0 w.heap.size [.string ky, .string nm, .slice (some ⟨tb, to, none⟩) n tc, .int .i64 is, .slice (some ⟨sb, so, none⟩) n sc] := by rw [hW0]; exact (boxL_new w [.string ky, .string nm, .slice (some ⟨tb, to, none⟩) n tc, .int .i64 is, .slice (some ⟨sb, so, none⟩) n sc] _ rfl).alloc _
 have BY : BoxL W0 (w.heap.size + 1) [.string ⟨#[]⟩, .string ⟨#[]⟩, .slice none 0 0, .int .i64 0, .slice none 0 0] := by rw [hW0]; exact boxL_new _ [.string ⟨#[]⟩, .string ⟨#[]⟩, .slice none 0 0, .int .i64 0, .slice none 0 0] _ (by simp)
 have hs0 : W0.heap.size = w.heap.size + 2 := by rw [hW0]; simp
 have cR := runRight_any ky nm (some ⟨tb, to, none⟩) n tc is (some ⟨sb, so, none⟩) n sc tv ss W0 hky (hT.below hB0) htn (hZ.below hB0) hn
 rw [runB_iff.2 hOk] at cR
 have cT := fun W (h : Below w.heap.size w W) => twin_any ky nm tb to n tc is sb so sc tv ss W (hT.below h) htn (hZ.below h) hn h0 h10 (fun t ht => (tasks_of hOk.dag ht).1)
 have HOK : Hid (RunOk ky nm (plainT tv) ss is) := hOk
 have HN : Hid (n = ss.length) := hn
 have HU : Hid (U = untF now []) := hU
 have HIN : Hid (∀ (i : Nat) t, tv[i]? = some t → ∀ x ∈ t.ns, 0 ≤ x ∧ x < n) := hin
 have f0 := BX.1 0 _ rfl; have f1 := BX.1 1 _ rfl; have f2 := BX.1 2 _ rfl; have f3 := BX.1 3 _ rfl; have f4 := BX.1 4 _ rfl
 clear hT htn hZ hn hOk hU hin
 unfold SettledC
 obtain ⟨SR, hSR⟩ : ∃ SR, SR = settleS (plainT tv) (untF now []) (ss, is) := ⟨_, rfl⟩
 rw [← hSR]
 have HSR : Hid (SR = settleS (plainT tv) (untF now []) (ss, is)) := hSR
 clear hSR
 have hzh : ∀ {W B g h n cap capS tw ss}, OwnRun W B g h n cap capS tw ss → w.heap.size < B → ¬ h = w.heap.size := fun r hb => by have := r.hg; have := r.hgh; omega
 go_enter Try.func14, Try.ntmps14
 rw [hW0] at f0 f1 f2 f3 f4
 go_wp2_with (first
  | (go_at_call 17; rw [← hW0]; refine cR.mono ?_; rintro e w1 ⟨rfl, hb⟩; clear f0 f1 f2 f3 f4; have BX1 := BX.below hb; have BY1 := BY.below hb; have hB := Below.tr hB0 hb; have hsz : w.heap.size + 2 ≤ w1.heap.size := (by have := hb.size; omega); have f0 := BX1.1 0 _ rfl; have f1 := BX1.1 1 _ rfl; have f2 := BX1.1 2 _ rfl; have f3 := BX1.1 3 _ rfl; have f4 := BX1.1 4 _ rfl)
  | (go_at_call 31; refine (cT _ hB).mono ?_; rintro e w2 ⟨g, h, cap, capS, tw, rfl, htw, hO, hb⟩; have BX2 := BX1.below hb; have BY2 := BY1.below hb; have hB2 := Below.tr hB hb; clear f0 f1 f2 f3 f4; have p0 := BX2.1 0 _ rfl; have p1 := BX2.1 1 _ rfl; have p2 := BX2.1 2 _ rfl; have p3 := BX2.1 3 _ rfl; have p4 := BX2.1 4 _ rfl; have q0 := BX2.2 0 (by simp); have q1 := BX2.2 1 (by simp); have q2 := BX2.2 2 (by simp); have q3 := BX2.2 3 (by simp); have q4 := BX2.2 4 (by simp); have H2 : Hid (plainT tw = plainT tv ∧ OwnRun w2 w1.heap.size g h n cap capS tw ss) := ⟨htw, hO⟩; obtain ⟨X, hX⟩ : ∃ X, X = (((((w2.setCell ⟨w.heap.size, 0, none⟩ (.string ky)).setCell ⟨w.heap.size, 1, none⟩ (.string nm)).setCell ⟨w.heap.size, 2, none⟩ (.slice (some ⟨g, 0, none⟩) n cap)).setCell ⟨w.heap.size, 3, none⟩ (.int .i64 is)).setCell ⟨w.heap.size, 4, none⟩ (.slice (some ⟨h, 0, none⟩) n capS)) := ⟨_, rfl⟩; have BX3 : BoxL X w.heap.size [.string ky, .string nm, .slice (some ⟨g, 0, none⟩) n cap, .int .i64 is, .slice (some ⟨h, 0, none⟩) n capS] := (by rw [hX]; exact boxL_set5 BX2 _ _ _ _ _); have tX : Turns (fun k => k = w.heap.size) w2 X := (by rw [hX]; exact turns_set5 _ _ _ _ _ _ _); have x4 := BX3.1 4 _ rfl; rw [hX] at x4; have HX : Hid (X = _) := hX; clear htw hO hX)
  | (go_at_call 37; rw [← HX.out]; refine (firstOver_any h 0 n capS ss now X (H2.out.2.row.turns tX (hzh H2.out.2 (by omega))).isZ HN.out h0).mono ?_; rintro e w3 ⟨rfl, hb3⟩))
 have hO3 : OwnRun w3 w1.heap.size g h n cap capS tw ss := (H2.out.2.turns tX (fun k hk => by omega)).below hb3
 have BX4 := BX3.below hb3
 have BY4 := (boxL_turns BY2 tX (by omega)).below hb3
 have hB4 : Below w.heap.size w w3 := Below.tr (Below.turns hB2 tX (fun i hi => by omega)) hb3
 obtain ⟨BB, hBB⟩ : ∃ BB, BB = w1.heap.size := ⟨_, rfl⟩
 rw [← hBB] at hO3
 have hBBl : w.heap.size + 2 ≤ BB := by omega
 have htw := H2.out.1
 have HTW : Hid (plainT tw = plainT tv) := htw
 clear htw hBB p0 p1 p2 p3 p4 q0 q1 q2 q3 q4 x4 BX BX1 BX2 BX3 BY BY1 BY2 tX hb hb3 HX H2 hB hB2 hB0 hsz cR cT hzh
 go_loopw [6, 7] (fun u v wr => ∃ (zs : List StP) (js : Int), u = .int .i64 (((overN zs (untF now [])).getD 0 : Nat) : Int) ∧ v = .bool (overN zs (untF now [])).isSome ∧ BoxL wr w.heap.size [.string ky, .string nm, .slice (some ⟨g, 0, none⟩) n cap, .int .i64 js, .slice (some ⟨h, 0, none⟩) n capS] ∧ BoxL wr (w.heap.size + 1) [.string ⟨#[]⟩, .string ⟨#[]⟩, .slice none 0 0, .int .i64 0, .slice none 0 0] ∧ OwnRun wr BB g h n cap capS tw zs ∧ Hid (RightS (plainT tv) zs js) ∧ Hid (settleS (plainT tv) (untF now []) (zs, js) = settleS (plainT tv) (untF now []) (ss, is)) ∧ Below w.heap.size w wr) (fun _ _ wr => heldW wr h n)
 case atStart => exact ⟨ss, is, rfl, rfl, BX4, BY4, hO3, HOK.out.st, rfl, hB4⟩
 case round =>
  clear BX4 BY4 hO3 hB4
  obtain ⟨zs, js, rfl, rfl, BX, BY, O, HR, HS, hB⟩ := hrel
  have hhz : ¬ h = w.heap.size := by have := O.hg; have := O.hgh; omega
  have hhy : ¬ h = w.heap.size + 1 := by have := O.hg; have := O.hgh; omega
  cases ho : overN zs (untF now []) with
  | none =>
   have HE : Hid (SR = (zs, js)) := by show _ = _; rw [HSR.out, ← HS.out]; exact settle_fix ho
   obtain ⟨Z, hZ⟩ : ∃ Z, Z = (((((wr.setCell ⟨w.heap.size + 1, 0, none⟩ (.string ky)).setCell ⟨w.heap.size + 1, 1, none⟩ (.string nm)).setCell ⟨w.heap.size + 1, 2, none⟩ (.slice (some ⟨g, 0, none⟩) n cap)).setCell ⟨w.heap.size + 1, 3, none⟩ (.int .i64 js)).setCell ⟨w.heap.size + 1, 4, none⟩ (.slice (some ⟨h, 0, none⟩) n capS)) := ⟨_, rfl⟩
   have BZ : BoxL Z (w.heap.size + 1) [.string ky, .string nm, .slice (some ⟨g, 0, none⟩) n cap, .int .i64 js, .slice (some ⟨h, 0, none⟩) n capS] := by rw [hZ]; exact boxL_set5 BY _ _ _ _ _
   have TZ : Turns (fun k => k = w.heap.size + 1) wr Z := by rw [hZ]; exact turns_set5 _ _ _ _ _ _ _
   have OZ := O.turns TZ (fun k hk => by omega)
   have hBZ := Below.turns hB TZ (fun i hi => by omega)
   have x0 := BX.1 0 _ rfl; have x1 := BX.1 1 _ rfl; have x2 := BX.1 2 _ rfl; have x3 := BX.1 3 _ rfl; have x4 := BX.1 4 _ rfl
   have y0 := BY.1 0 _ rfl; have y1 := BY.1 1 _ rfl; have y2 := BY.1 2 _ rfl; have y3 := BY.1 3 _ rfl; have y4 := BY.1 4 _ rfl
   have d0 := BY.2 0 (by simp); have d1 := BY.2 1 (by simp); have d2 := BY.2 2 (by simp); have d3 := BY.2 3 (by simp); have d4 := BY.2 4 (by simp)
   have r0 := BZ.1 0 _ rfl; have r1 := BZ.1 1 _ rfl; have r2 := BZ.1 2 _ rfl; have r3 := BZ.1 3 _ rfl; have r4 := BZ.1 4 _ rfl
   clear BX BY O HR HS hB BZ TZ
   go_wp2
   rw [← hZ]
   refine bodyPost_ret (v := .tuple #[.agg #[.string ky, .string nm, .slice (some ⟨g, 0, none⟩) n cap, .int .i64 js, .slice (some ⟨h, 0, none⟩) n capS], .int .i64 0]) (by simp [results, Try.results14, go_sem, r0, r1, r2, r3, r4]) rfl ?_
   rw [HE.out]
   first | exact ⟨g, h, n, cap, capS, tw, rfl, HTW.out, OZ.mono (by omega), hBZ⟩ | exact ⟨g, h, n, cap, capS, rfl, tw, HTW.out, OZ.mono (by omega), hBZ⟩
  | some ix =>
   have HO : Hid (overN zs (untF now []) = some ix) := ho
   obtain ⟨s, hs, h2, hd, -⟩ := overN_some ho
   obtain ⟨t, ht⟩ : ∃ t, tw[ix]? = some t := ⟨_, List.getElem?_eq_getElem (by rw [← O.htn, O.hn]; exact (List.getElem?_eq_some_iff.1 hs).1)⟩
   have htp : (plainT tv)[ix]? = some t.p := by rw [← HTW.out]; exact plainT_get ht
   have hrt := (HR.out.each ix s t.p hs htp).right
   have hst := ((standT_iff s).1 (right_parts hrt).1).2.1
   have hil : ix < zs.length := (List.getElem?_eq_some_iff.1 hs).1
   have hin0 : ix < n := by rw [O.hn]; exact hil
   have hin' : (ix : Int) < n := by omega
   obtain ⟨y0, y1, y2, y3, -⟩ := O.hT.at ht
   obtain ⟨p0, p1, p2, p3, p4⟩ := O.row.at hs
   rw [Nat.zero_add] at y0 y1 y2 y3 p0 p1 p2 p3 p4
   obtain ⟨X, hX⟩ : ∃ X, X = failT t.tr t.wt s s.d := ⟨_, rfl⟩
   have hex : expireT t.tr t.wt s now = X := by rw [hX]; unfold expireT; rw [if_pos ⟨h2, hd⟩]
   have hXf : X = failI (plainT tv) zs ix := by unfold failI; rw [hs, htp, hX]; rfl
   have hXt : X.r.size ≤ maxLen := by rw [hX]; exact fail_text (O.row.isZ.text hs)
   have cE : ∀ W, Calls Try.prog 38 #[.agg #[.slice t.a t.ns.length t.c, .int .i64 t.tr, .int .i64 t.wt, .int .i64 t.le], .agg #[.int .i64 s.i, .int .i64 s.t, .int .i64 s.d, .int .i64 s.k, .string s.r], .int .i64 now] W fun e w' => e = .returned (vT X) ∧ Below W.heap.size W w' := by
    intro W
    have := expireT_any t.a t.ns.length t.c t.tr t.wt t.le s.i s.t s.d s.k s.r now W (by omega)
    rw [show (⟨s.i, s.t, s.d, s.k, s.r⟩ : StP) = s from rfl, hex] at this
    exact this
   have HST : Hid (stepS (plainT tv) (untF now []) (zs, js) = mendS (plainT tv) (zs.set ix X) js) := by
    show _ = _
    unfold stepS
    simp only [ho]
    rw [← hXf]
   have hb1 : n ≤ cap ∧ cap ≤ 9223372036854775807 := by have h1 := O.hT.1; have h2 := O.hT.2.1; rw [← O.htn] at h1; exact ⟨h1, h2⟩
   have hb2 : n ≤ capS ∧ capS ≤ 9223372036854775807 := by have h1 := O.row.isZ.1; have h2 := O.row.isZ.2.1; rw [← O.hn] at h1; exact ⟨h1, h2⟩
   obtain ⟨hb11, hb12⟩ := hb1
   obtain ⟨hb21, hb22⟩ := hb2
   have HH : Hid (heldW wr h n = heldN zs) := heldW_is O.row O.hn
   have HIN2 : Hid (∀ (i : Nat) t, tw[i]? = some t → ∀ x ∈ t.ns, 0 ≤ x ∧ x < n) := by
    intro i t hi x hx
    have h1 := plainT_get hi
    rw [HTW.out] at h1
    unfold plainT at h1
    rw [List.getElem?_map] at h1
    obtain ⟨t', ht', e⟩ := Option.map_eq_some_iff.1 h1
    have e2 : t'.ns = t.ns := congrArg TaskP.needs e
    exact HIN.out i t' ht' x (by rw [e2]; exact hx)
   have x0 := BX.1 0 _ rfl; have x1 := BX.1 1 _ rfl; have x2 := BX.1 2 _ rfl; have x3 := BX.1 3 _ rfl; have x4 := BX.1 4 _ rfl
   obtain ⟨tv1, htv1⟩ : ∃ tv1 : Value, tv1 = .agg #[.slice t.a t.ns.length t.c, .int .i64 t.tr, .int .i64 t.wt, .int .i64 t.le] := ⟨_, rfl⟩
   obtain ⟨si, st, sd, sk, sr⟩ := s
   dsimp only at *
   obtain ⟨ta, hta⟩ : ∃ ta, ta = t.a := ⟨_, rfl⟩
   obtain ⟨tl, htl⟩ : ∃ tl, tl = t.ns.length := ⟨_, rfl⟩
   obtain ⟨tcc, htcc⟩ : ∃ tcc, tcc = t.c := ⟨_, rfl⟩
   obtain ⟨ttr, httr⟩ : ∃ ttr, ttr = t.tr := ⟨_, rfl⟩
   obtain ⟨twt, htwt⟩ : ∃ twt, twt = t.wt := ⟨_, rfl⟩
   obtain ⟨tle, htle⟩ : ∃ tle, tle = t.le := ⟨_, rfl⟩
   rw [← hta, ← htl, ← htcc] at y0
   rw [← httr] at y1
   rw [← htwt] at y2
   rw [← htle] at y3
   rw [← hta, ← htl, ← htcc, ← httr, ← htwt, ← htle] at cE
   have HSO : Hid (zs[ix]? = some ⟨si, st, sd, sk, sr⟩) := hs
   have HTS : Hid (tw[ix]? = some t) := ht
   clear ho h2 hd ht htp hrt hst hX hex hXf hta htl htcc httr htwt htle htv1 hs
   go_wp2
   have hWd : ∀ {b q : Nat} {v : Value}, wr.cell? ⟨b, q, none⟩ = some v → ∀ V, Below wr.heap.size wr V → V.cell? ⟨b, q, none⟩ = some v := fun hc V hV => cell_below hV hc
   refine region_turns (by kernel_rfl) [17] (setV w.heap.size g h n cap capS ix (.agg #[.slice ta tl tcc, .int .i64 ttr, .int .i64 twt, .int .i64 tle]) ⟨si, st, sd, sk, sr⟩ X now) (StoreS wr h 0 capS zs ix X) (by kernel_rfl) (by kernel_rfl) (Below.refl _ _).drew ?step 18 rfl ?after
   case step =>
    intro i o ho kk a2 wX hkk hmay hS hdf hsz hdep hsame
    match i, ho with
    | 0, ho =>
     cases ho
     have h2 := hsame 2 rfl
     exact val_op rfl (wanted_free rfl) (by clear hdep hsame hsz hdf; (try simp only [setV]); go_simp) rfl hS
    | 1, ho =>
     cases ho
     have h29 := hdep 0 _ 29 rfl rfl rfl
     simp only [setV] at h29
     match kk, hkk, hmay, hS with
     | 0, _, hq, hS => first | (cases hq; done) | ((have a2 := hWd x2 _ hS; have a4 := hWd x4 _ hS; have b0 := hWd y0 _ hS; have b1 := hWd y1 _ hS; have b2 := hWd y2 _ hS; have b3 := hWd y3 _ hS; have c0 := hWd p0 _ hS; have c1 := hWd p1 _ hS; have c2 := hWd p2 _ hS; have c3 := hWd p3 _ hS; have c4 := hWd p4 _ hS; obtain ⟨r0, r1, r2, r3, r4⟩ := (O.row.below hS).frees hil; rw [Nat.zero_add] at r0 r1 r2 r3 r4); exact val_op rfl (wanted_free rfl) (by clear hdep hsame hsz hdf; (try simp only [setV]); go_simp) rfl hS)
     | 1, _, hq, hS => first | (cases hq; done) | ((have a2 := hS.1.cell (p := ⟨w.heap.size, 2, none⟩) (fun e => hhz e.symm) x2; have a4 := hS.1.cell (p := ⟨w.heap.size, 4, none⟩) (fun e => hhz e.symm) x4); exact val_op rfl (wanted_free rfl) (by clear hdep hsame hsz hdf; (try simp only [setV]); go_simp) rfl hS)
     | kk + 2, hkk, _, _ => simp at hkk
    | 2, ho =>
     cases ho
     have h6 := hsame 6 rfl
     exact val_op rfl (wanted_free rfl) (by clear hdep hsame hsz hdf; (try simp only [setV]); go_simp) rfl hS
    | 3, ho =>
     cases ho
     have h2 := hsame 2 rfl
     exact val_op rfl (wanted_free rfl) (by clear hdep hsame hsz hdf; (try simp only [setV]); go_simp) rfl hS
    | 4, ho =>
     cases ho
     have h32 := hdep 3 _ 32 rfl rfl rfl
     simp only [setV] at h32
     exact val_op rfl (wanted_free rfl) (by clear hdep hsame hsz hdf; (try simp only [setV]); go_simp) rfl hS
    | 5, ho =>
     cases ho
     have h33 := hdep 4 _ 33 rfl rfl rfl
     simp only [setV] at h33
     match kk, hkk, hmay, hS with
     | 0, _, hq, hS => first | (cases hq; done) | ((have a2 := hWd x2 _ hS; have a4 := hWd x4 _ hS; have b0 := hWd y0 _ hS; have b1 := hWd y1 _ hS; have b2 := hWd y2 _ hS; have b3 := hWd y3 _ hS; have c0 := hWd p0 _ hS; have c1 := hWd p1 _ hS; have c2 := hWd p2 _ hS; have c3 := hWd p3 _ hS; have c4 := hWd p4 _ hS; obtain ⟨r0, r1, r2, r3, r4⟩ := (O.row.below hS).frees hil; rw [Nat.zero_add] at r0 r1 r2 r3 r4); exact val_op rfl (wanted_free rfl) (by clear hdep hsame hsz hdf; (try simp only [setV]); go_simp) rfl hS)
     | 1, _, hq, hS => first | (cases hq; done) | ((have a2 := hS.1.cell (p := ⟨w.heap.size, 2, none⟩) (fun e => hhz e.symm) x2; have a4 := hS.1.cell (p := ⟨w.heap.size, 4, none⟩) (fun e => hhz e.symm) x4); exact val_op rfl (wanted_free rfl) (by clear hdep hsame hsz hdf; (try simp only [setV]); go_simp) rfl hS)
     | kk + 2, hkk, _, _ => simp at hkk
    | 6, ho =>
     cases ho
     have h6 := hsame 6 rfl
     exact val_op rfl (wanted_free rfl) (by clear hdep hsame hsz hdf; (try simp only [setV]); go_simp) rfl hS
    | 7, ho =>
     cases ho
     have h34 := hdep 5 _ 34 rfl rfl rfl
     have h35 := hdep 6 _ 35 rfl rfl rfl
     simp only [setV] at h34 h35
     exact val_op rfl (wanted_free rfl) (by clear hdep hsame hsz hdf; (try simp only [setV]); go_simp) rfl hS
    | 8, ho =>
     cases ho
     have h36 := hdep 7 _ 36 rfl rfl rfl
     simp only [setV] at h36
     match kk, hkk, hmay, hS with
     | 0, _, hq, hS => first | (cases hq; done) | ((have a2 := hWd x2 _ hS; have a4 := hWd x4 _ hS; have b0 := hWd y0 _ hS; have b1 := hWd y1 _ hS; have b2 := hWd y2 _ hS; have b3 := hWd y3 _ hS; have c0 := hWd p0 _ hS; have c1 := hWd p1 _ hS; have c2 := hWd p2 _ hS; have c3 := hWd p3 _ hS; have c4 := hWd p4 _ hS; obtain ⟨r0, r1, r2, r3, r4⟩ := (O.row.below hS).frees hil; rw [Nat.zero_add] at r0 r1 r2 r3 r4); exact val_op rfl (wanted_free rfl) (by clear hdep hsame hsz hdf; (try simp only [setV]); go_simp) rfl hS)
     | 1, _, hq, hS => first | (cases hq; done) | ((have a2 := hS.1.cell (p := ⟨w.heap.size, 2, none⟩) (fun e => hhz e.symm) x2; have a4 := hS.1.cell (p := ⟨w.heap.size, 4, none⟩) (fun e => hhz e.symm) x4); exact val_op rfl (wanted_free rfl) (by clear hdep hsame hsz hdf; (try simp only [setV]); go_simp) rfl hS)
     | kk + 2, hkk, _, _ => simp at hkk
    | 9, ho =>
     cases ho
     have h2 := hsame 2 rfl
     exact val_op rfl (wanted_free rfl) (by clear hdep hsame hsz hdf; (try simp only [setV]); go_simp) rfl hS
    | 10, ho =>
     cases ho
     have h38 := hdep 9 _ 38 rfl rfl rfl
     simp only [setV] at h38
     match kk, hkk, hmay, hS with
     | 0, _, hq, hS => first | (cases hq; done) | ((have a2 := hWd x2 _ hS; have a4 := hWd x4 _ hS; have b0 := hWd y0 _ hS; have b1 := hWd y1 _ hS; have b2 := hWd y2 _ hS; have b3 := hWd y3 _ hS; have c0 := hWd p0 _ hS; have c1 := hWd p1 _ hS; have c2 := hWd p2 _ hS; have c3 := hWd p3 _ hS; have c4 := hWd p4 _ hS; obtain ⟨r0, r1, r2, r3, r4⟩ := (O.row.below hS).frees hil; rw [Nat.zero_add] at r0 r1 r2 r3 r4); exact val_op rfl (wanted_free rfl) (by clear hdep hsame hsz hdf; (try simp only [setV]); go_simp) rfl hS)
     | 1, _, hq, hS => first | (cases hq; done) | ((have a2 := hS.1.cell (p := ⟨w.heap.size, 2, none⟩) (fun e => hhz e.symm) x2; have a4 := hS.1.cell (p := ⟨w.heap.size, 4, none⟩) (fun e => hhz e.symm) x4); exact val_op rfl (wanted_free rfl) (by clear hdep hsame hsz hdf; (try simp only [setV]); go_simp) rfl hS)
     | kk + 2, hkk, _, _ => simp at hkk
    | 11, ho =>
     cases ho
     have h6 := hsame 6 rfl
     exact val_op rfl (wanted_free rfl) (by clear hdep hsame hsz hdf; (try simp only [setV]); go_simp) rfl hS
    | 12, ho =>
     cases ho
     have h39 := hdep 10 _ 39 rfl rfl rfl
     have h40 := hdep 11 _ 40 rfl rfl rfl
     simp only [setV] at h39 h40
     exact val_op rfl (wanted_free rfl) (by clear hdep hsame hsz hdf; (try simp only [setV]); go_simp) rfl hS
    | 13, ho =>
     cases ho
     have h41 := hdep 12 _ 41 rfl rfl rfl
     simp only [setV] at h41
     match kk, hkk, hmay, hS with
     | 0, _, hq, hS => first | (cases hq; done) | ((have a2 := hWd x2 _ hS; have a4 := hWd x4 _ hS; have b0 := hWd y0 _ hS; have b1 := hWd y1 _ hS; have b2 := hWd y2 _ hS; have b3 := hWd y3 _ hS; have c0 := hWd p0 _ hS; have c1 := hWd p1 _ hS; have c2 := hWd p2 _ hS; have c3 := hWd p3 _ hS; have c4 := hWd p4 _ hS; obtain ⟨r0, r1, r2, r3, r4⟩ := (O.row.below hS).frees hil; rw [Nat.zero_add] at r0 r1 r2 r3 r4); exact val_op rfl (wanted_free rfl) (by clear hdep hsame hsz hdf; (try simp only [setV]); go_simp) rfl hS)
     | 1, _, hq, hS => first | (cases hq; done) | ((have a2 := hS.1.cell (p := ⟨w.heap.size, 2, none⟩) (fun e => hhz e.symm) x2; have a4 := hS.1.cell (p := ⟨w.heap.size, 4, none⟩) (fun e => hhz e.symm) x4); exact val_op rfl (wanted_free rfl) (by clear hdep hsame hsz hdf; (try simp only [setV]); go_simp) rfl hS)
     | kk + 2, hkk, _, _ => simp at hkk
    | 14, ho =>
     cases ho
     have h1 := hsame 1 rfl
     exact val_op rfl (wanted_free rfl) (by clear hdep hsame hsz hdf; (try simp only [setV]); go_simp) rfl hS
    | 15, ho =>
     cases ho
     have h37 := hdep 8 _ 37 rfl rfl rfl
     have h42 := hdep 13 _ 42 rfl rfl rfl
     have h43 := hdep 14 _ 43 rfl rfl rfl
     simp only [setV] at h37 h42 h43
     match kk, hkk, hmay, hS with
     | 0, _, hq, hS => first | (cases hq; done) | ((have a2 := hWd x2 _ hS; have a4 := hWd x4 _ hS; have b0 := hWd y0 _ hS; have b1 := hWd y1 _ hS; have b2 := hWd y2 _ hS; have b3 := hWd y3 _ hS; have c0 := hWd p0 _ hS; have c1 := hWd p1 _ hS; have c2 := hWd p2 _ hS; have c3 := hWd p3 _ hS; have c4 := hWd p4 _ hS; obtain ⟨r0, r1, r2, r3, r4⟩ := (O.row.below hS).frees hil; rw [Nat.zero_add] at r0 r1 r2 r3 r4); exact val_call rfl (wanted_free rfl) (by clear hdep hsame hsz hdf; (try simp only [setV]); go_simp) ((cE wX).mono fun e w2 hh => ⟨hh.1, Below.tr hS hh.2⟩))
     | 1, _, hq, hS => first | (cases hq; done) | ((have a2 := hS.1.cell (p := ⟨w.heap.size, 2, none⟩) (fun e => hhz e.symm) x2; have a4 := hS.1.cell (p := ⟨w.heap.size, 4, none⟩) (fun e => hhz e.symm) x4); exact val_call rfl (wanted_free rfl) (by clear hdep hsame hsz hdf; (try simp only [setV]); go_simp) ((cE wX).mono fun e w2 hh => ⟨hh.1, Below.tr hS hh.2⟩))
     | kk + 2, hkk, _, _ => simp at hkk
    | 16, ho =>
     cases ho
     have h30 := hdep 1 _ 30 rfl rfl rfl
     have h31 := hdep 2 _ 31 rfl rfl rfl
     simp only [setV] at h30 h31
     exact val_op rfl (wanted_free rfl) (by clear hdep hsame hsz hdf; (try simp only [setV]); go_simp) rfl hS
    | 17, ho =>
     cases ho
     have h45 := hdep 16 _ 45 rfl rfl rfl
     have h44 := hdep 15 _ 44 rfl rfl rfl
     simp only [setV] at h45 h44
     match kk, hkk, hmay, hS with
     | 0, _, _, hS =>
      (have a2 := hWd x2 _ hS; have a4 := hWd x4 _ hS; have b0 := hWd y0 _ hS; have b1 := hWd y1 _ hS; have b2 := hWd y2 _ hS; have b3 := hWd y3 _ hS; have c0 := hWd p0 _ hS; have c1 := hWd p1 _ hS; have c2 := hWd p2 _ hS; have c3 := hWd p3 _ hS; have c4 := hWd p4 _ hS; obtain ⟨r0, r1, r2, r3, r4⟩ := (O.row.below hS).frees hil; rw [Nat.zero_add] at r0 r1 r2 r3 r4)
      exact val_skip (w' := put5 wX h (ix * 5) X) rfl (wanted_free rfl) rfl (by clear hdep hsame hsz hdf; (try simp only [setV]); go_simp) ((by have hh := storeS_put O.row hil hXt hS; rw [Nat.zero_add] at hh; exact hh))
     | 1, _, hq, _ => cases hq
     | kk + 2, hkk, _, _ => simp at hkk
    | kk + 18, ho => simp at ho
   case after =>
    rintro V ⟨tV, rV⟩
    have OV := O.store tV rV (by rw [List.length_set])
    have BXV := boxL_turns BX tV (fun e => hhz e.symm)
    have BYV := boxL_turns BY tV (fun e => hhy e.symm)
    have hBV := Below.turns hB tV (fun k hk => by subst hk; have := O.hg; have := O.hgh; omega)
    have cM := mended_any ky nm (some ⟨g, 0, none⟩) n cap js h 0 n capS tw (zs.set ix X) V OV.row OV.hn OV.hT OV.htn OV.off rfl HIN2.out
    have HM : Hid (mendS (plainT tw) (zs.set ix X) js = stepS (plainT tv) (untF now []) (zs, js)) := by show _ = _; rw [HST.out, HTW.out]
    obtain ⟨ms, hms⟩ : ∃ ms, ms = (mendS (plainT tw) (zs.set ix X) js).1 := ⟨_, rfl⟩
    obtain ⟨mi, hmi⟩ : ∃ mi, mi = (mendS (plainT tw) (zs.set ix X) js).2 := ⟨_, rfl⟩
    rw [← hms, ← hmi] at cM
    have hml : ms.length = (zs.set ix X).length := by rw [hms]; exact mend_len _ _ _
    have HX : Hid ((ms, mi) = stepS (plainT tv) (untF now []) (zs, js)) := by show _ = _; rw [hms, hmi]; exact HM.out
    have HSr : Hid (stepS (plainT tv) (untF now []) (zs, js) = stepS (plainT tv) (untF now []) (zs, js) ∧ heldN ms < heldN zs ∧ RightS (plainT tv) ms mi ∧ settleS (plainT tv) (untF now []) (ms, mi) = settleS (plainT tv) (untF now []) (ss, is)) := by
     refine ⟨rfl, ?_, ?_, ?_⟩
     ·
      have := step_held (ts := plainT tv) (x := (zs, js)) HO.out
      rw [← HX.out] at this
      exact this
     ·
      have := step_right (fun i t hi => by
       have h1 := HOK.out.dag
       unfold plainT at hi
       rw [List.getElem?_map] at hi
       obtain ⟨t', ht', rfl⟩ := Option.map_eq_some_iff.1 hi
       exact (tasks_of h1 (List.mem_of_getElem? ht')).2.1) (u := untF now []) (x := (zs, js)) HR.out
      rw [← HX.out] at this
      exact this
     ·
      rw [HX.out, settle_step]; exact HS.out
    clear hms hmi HM HST
    simp [filledN, setV]
    clear x0 x1 x2 x3 x4 p0 p1 p2 p3 p4
    clear y0 y1 y2 y3
    have x0 := BXV.1 0 _ rfl; have x1 := BXV.1 1 _ rfl; have x2 := BXV.1 2 _ rfl; have x3 := BXV.1 3 _ rfl; have x4 := BXV.1 4 _ rfl
    go_wp2_with (first
     | (go_at_call 30; refine cM.mono ?_; rintro e w5 ⟨rfl, r5, t5⟩; have O5 := OV.store t5 r5 hml; have BX5 := boxL_turns BXV t5 (fun e => hhz e.symm); have BY5 := boxL_turns BYV t5 (fun e => hhy e.symm); have hB5 := Below.turns hBV t5 (fun k hk => by subst hk; have := O.hg; have := O.hgh; omega); clear x0 x1 x2 x3 x4; have p0 := BX5.1 0 _ rfl; have p1 := BX5.1 1 _ rfl; have p2 := BX5.1 2 _ rfl; have p3 := BX5.1 3 _ rfl; have p4 := BX5.1 4 _ rfl; have q0 := BX5.2 0 (by simp); have q1 := BX5.2 1 (by simp); have q2 := BX5.2 2 (by simp); have q3 := BX5.2 3 (by simp); have q4 := BX5.2 4 (by simp); obtain ⟨X6, hX6⟩ : ∃ X6, X6 = (((((w5.setCell ⟨w.heap.size, 0, none⟩ (.string ky)).setCell ⟨w.heap.size, 1, none⟩ (.string nm)).setCell ⟨w.heap.size, 2, none⟩ (.slice (some ⟨g, 0, none⟩) n cap)).setCell ⟨w.heap.size, 3, none⟩ (.int .i64 mi)).setCell ⟨w.heap.size, 4, none⟩ (.slice (some ⟨h, 0, none⟩) n capS)) := ⟨_, rfl⟩; have BX6 : BoxL X6 w.heap.size [.string ky, .string nm, .slice (some ⟨g, 0, none⟩) n cap, .int .i64 mi, .slice (some ⟨h, 0, none⟩) n capS] := (by rw [hX6]; exact boxL_set5 BX5 _ _ _ _ _); have t6 : Turns (fun k => k = w.heap.size) w5 X6 := (by rw [hX6]; exact turns_set5 _ _ _ _ _ _ _); have O6 := O5.turns t6 (fun k hk => by omega); have BY6 := boxL_turns BY5 t6 (by omega); have hB6 := Below.turns hB5 t6 (fun k hk => by omega); have x4 := BX6.1 4 _ rfl; rw [hX6] at x4; have HX6 : Hid (X6 = _) := hX6; clear hX6)
     | (go_at_call 37; rw [← HX6.out]; refine (firstOver_any h 0 n capS ms now X6 O6.row.isZ O6.hn h0).mono ?_; rintro e w7 ⟨rfl, hb7⟩; have O7 := O6.below hb7; have BX7 := BX6.below hb7; have BY7 := BY6.below hb7; have hB7 := Below.tr hB6 hb7))
    go_roundw
    case rel => exact ⟨ms, mi, rfl, rfl, BX7, BY7, O7, HSr.out.2.2.1, HSr.out.2.2.2, hB7⟩
    case measure => rw [heldW_is O7.row O7.hn, HH.out]; exact HSr.out.2.1
end Go.Proofs.Ytdpljpjbomhccaa
namespace Go.Proofs.Ytdpljpjbomhccaa
open Go.RowKit Plain
set_option linter.unusedVariables false
structure XR (V : World) (xa : Option Addr) (xm xc : Nat) (xs : Option Addr) (xq xsc : Nat) (xt : List TaskV) (xz : List StP) : Prop where
 hT : IsT V xa xc xt
 hm : xm = xt.length
 hZ : IsZ V xs xsc xz
 hq : xq = xz.length
theorem XR.below {V V' : World} {xa : Option Addr} {xm xc : Nat} {xs : Option Addr} {xq xsc : Nat} {xt : List TaskV} {xz : List StP} (h : XR V xa xm xc xs xq xsc xt xz) (hb : Below V.heap.size V V') : XR V' xa xm xc xs xq xsc xt xz :=
 ⟨h.hT.below hb, h.hm, h.hZ.below hb, h.hq⟩
def ToldU (w : World) (E : Int) (ky nm : ByteArray) (is : Int) (fs : List TaskP) (zs : List StP) (e : Ending) (w' : World) : Prop :=
 ∃ xk xn xa xm xc xi xs xq xsc xt xz, e = .returned (.tuple #[.agg #[.string xk, .string xn, .slice xa xm xc, .int .i64 xi, .slice xs xq xsc], .int .i64 E]) ∧ XR w' xa xm xc xs xq xsc xt xz ∧
  (E = 0 → ky = xk ∧ nm = xn ∧ is = xi ∧ plainT xt = fs ∧ zs = xz) ∧
  (E ≠ 0 → ⟨#[]⟩ = xk ∧ ⟨#[]⟩ = xn ∧ none = xa ∧ 0 = xm ∧ 0 = xc ∧ 0 = xi ∧ none = xs ∧ 0 = xq ∧ 0 = xsc ∧ [] = xt ∧ [] = xz) ∧ Below w.heap.size w w'
theorem toldU_zero {w w' : World} {E : Int} (hE : E ≠ 0) {ky nm : ByteArray} {is : Int} {fs : List TaskP} {zs : List StP} {e : Ending} (h : e = .returned (.tuple #[.agg #[.string ⟨#[]⟩, .string ⟨#[]⟩, .slice none 0 0, .int .i64 0, .slice none 0 0], .int .i64 E]) ∧ Below w.heap.size w w') : ToldU w E ky nm is fs zs e w' :=
 ⟨_, _, _, _, _, _, _, _, _, [], [], h.1, ⟨isT_nil _ _ _ (Nat.zero_le _), rfl, isZ_nil _ _ _ (Nat.zero_le _), rfl⟩, fun e => absurd e hE, fun _ => ⟨rfl, rfl, rfl, rfl, rfl, rfl, rfl, rfl, rfl, rfl, rfl⟩, h.2⟩
end Go.Proofs.Ytdpljpjbomhccaa
namespace Go.Proofs.Ytdpljpjbomhccaa.Plain
open Go.RowKit
set_option linter.unusedVariables false
end Go.Proofs.Ytdpljpjbomhccaa.Plain
namespace Go.Proofs.Ytdpljpjbomhccaa
open Go.RowKit Plain
set_option linter.unusedVariables false
def heldAt (ss : List StP) (k : Int) : Option Nat := ss.findIdx? fun s => decide (s.i = 2 ∧ s.k = k)
theorem idx_some {α : Type} {p : α → Bool} {l : List α} {i : Nat} (h : l.findIdx? p = some i) : ∃ s, l[i]? = some s ∧ p s = true ∧ ∀ j < i, ∀ u, l[j]? = some u → p u = false := by
 obtain ⟨hl, hp, hq⟩ := List.findIdx?_eq_some_iff_getElem.1 h
 refine ⟨l[i], List.getElem?_eq_getElem hl, hp, fun j hj u hu => ?_⟩
 obtain ⟨hjl, rfl⟩ := List.getElem?_eq_some_iff.1 hu
 simpa using hq j hj
theorem idx_is {α : Type} {p : α → Bool} {l : List α} {i : Nat} {s : α} (hs : l[i]? = some s) (hp : p s = true) (h : ∀ j < i, ∀ u, l[j]? = some u → p u = false) : l.findIdx? p = some i := by
 rw [List.findIdx?_eq_some_iff_getElem]
 obtain ⟨hl, rfl⟩ := List.getElem?_eq_some_iff.1 hs
 exact ⟨hl, hp, fun j hj => by rw [h j hj _ (List.getElem?_eq_getElem (by omega))]; simp⟩
theorem idx_no {α : Type} {p : α → Bool} {l : List α} (h : ∀ (i : Nat) s, l[i]? = some s → p s = false) : l.findIdx? p = none := by
 rw [List.findIdx?_eq_none_iff]
 intro s hs
 obtain ⟨i, hi⟩ := List.mem_iff_getElem?.1 hs
 exact h i s hi
theorem held_some {ss : List StP} {k : Int} {i : Nat} (h : heldAt ss k = some i) : ∃ s, ss[i]? = some s ∧ s.i = 2 ∧ s.k = k := by
 obtain ⟨s, hs, hp, -⟩ := idx_some h
 have := of_decide_eq_true hp
 exact ⟨s, hs, this.1, this.2⟩
theorem tokF_held {ss : List StP} (ha : ∀ (i j : Nat) s u, i < j → ss[i]? = some s → ss[j]? = some u → s.i = 2 → u.i = 2 → s.k ≠ u.k) (k : Int) : tokF (candL [2] ss) k = heldAt ss k := by
 unfold tokF
 cases hf : (candL [2] ss).reverse.find? (fun p => decide (p.2.k = k)) with
 | none =>
  rw [Option.map_none]
  refine (idx_no fun i s hs => decide_eq_false ?_).symm
  rintro ⟨h2, hk⟩
  have hm := mem_candL (ks := [2]) hs (by rw [h2]; simp)
  rw [List.find?_eq_none] at hf
  exact hf _ (List.mem_reverse.2 hm) (by simpa using hk)
 | some p =>
  rw [Option.map_some]
  have h1 := List.find?_some hf
  have h2 := List.mem_of_find?_eq_some hf
  obtain ⟨g1, g2⟩ := candL_mem (List.mem_reverse.1 h2)
  have g2' : p.2.i = 2 := by simpa using g2
  have hk : p.2.k = k := by simpa using h1
  refine (idx_is g1 (decide_eq_true ⟨g2', hk⟩) fun j hj u hu => decide_eq_false ?_).symm
  rintro ⟨u2, uk⟩
  exact ha j p.1 u p.2 hj hu g1 u2 g2' (by rw [uk, hk])
theorem right_apart {ts : List TaskP} {ss : List StP} {is : Int} (h : RightS ts ss is) : ∀ (i j : Nat) s u, i < j → ss[i]? = some s → ss[j]? = some u → s.i = 2 → u.i = 2 → s.k ≠ u.k := fun i j s u hij hs hu h2 g2 => by
 obtain ⟨t, ht⟩ := h.task hs
 obtain ⟨t', ht'⟩ := h.task hu
 exact (h.each j u t' hu ht').token i s hij hs ((right_held (h.each j u t' hu ht').right).2.2 g2)
set_option maxRecDepth 20000 in
set_option maxHeartbeats 2000000 in
theorem sameInts_any (a a' : Option Addr) (c c' n n' : Nat) (xs ys : List Int) (w : World) (hn : n = xs.length) (hn' : n' = ys.length) (hI : IsI w a c xs) (hI' : IsI w a' c' ys) :
  Calls Try.prog 77 #[.slice a n c, .slice a' n' c'] w fun e w' => e = .returned (.bool (decide (xs = ys))) ∧ Below w.heap.size w w' := by
 have m1 : n ≤ 9223372036854775807 := by rw [hn]; exact Nat.le_trans hI.1 hI.2.1
 have m2 : n' ≤ 9223372036854775807 := by rw [hn']; exact Nat.le_trans hI'.1 hI'.2.1
 by_cases hl : n = n'
 ·
  subst hl
  have HN : Hid (n = xs.length) := hn
  have HN' : Hid (n = ys.length) := hn'
  have HI : Hid (IsI w a c xs) := hI
  have HI' : Hid (IsI w a' c' ys) := hI'
  clear hn hn' hI hI'
  go_enter Try.func77, Try.ntmps77
  go_wp2
  go_loopw [13] (fun v wr => ∃ j : Nat, j ≤ n ∧ v = .int .i64 j ∧ Hid (xs.take j = ys.take j) ∧ Below w.heap.size w wr) (fun v _ => n - (intOf v).toNat)
  case atStart => exact ⟨0, by omega, rfl, rfl, Below.refl _ _⟩
  case round =>
   obtain ⟨j, hj, rfl, HT, hB⟩ := hrel
   by_cases hlt : j < n
   ·
    have hlt' : (j : Int) < n := by omega
    obtain ⟨x, hx⟩ : ∃ x, xs[j]? = some x := ⟨_, List.getElem?_eq_getElem (by rw [← HN.out]; exact hlt)⟩
    obtain ⟨y, hy⟩ : ∃ y, ys[j]? = some y := ⟨_, List.getElem?_eq_getElem (by rw [← HN'.out]; exact hlt)⟩
    obtain ⟨b, o, rfl, -, c0⟩ := HI.out.2.2 j x hx
    obtain ⟨b', o', rfl, -, c1⟩ := HI'.out.2.2 j y hy
    have z0 := cell_below hB c0
    have z1 := cell_below hB c1
    clear c0 c1
    by_cases hxy : x = y
    ·
     subst hxy
     have HT2 : Hid (xs.take (j + 1) = ys.take (j + 1)) := by show _ = _; rw [List.take_add_one, List.take_add_one, hx, hy, HT.out]
     clear hx hy HT
     go_wp2
     go_region
     go_wp2
     go_roundw
     case rel => exact ⟨j + 1, by omega, by go_num, HT2, hB.drew⟩
     case measure => simp [intOf]; omega
    ·
     have hxy' : (x != y) = true := by simpa using hxy
     have e : Hid (decide (xs = ys) = false) := decide_eq_false (fun h => hxy (by rw [h, hy] at hx; exact (Option.some.inj hx).symm))
     clear hx hy HT
     go_wp2
     go_region
     go_wp2
     go_ret
     exact ⟨by rw [e.out]; rfl, hB.drew⟩
   ·
    obtain rfl : j = n := by omega
    have e : Hid (decide (xs = ys) = true) := by
     show _ = _
     have := HT.out
     rw [List.take_of_length_le (by rw [← HN.out]; exact Nat.le_refl _), List.take_of_length_le (by rw [← HN'.out]; exact Nat.le_refl _)] at this
     exact decide_eq_true this
    have hx : ¬ (j : Int) < j := by omega
    clear HT
    go_wp2
    go_ret
    exact ⟨by rw [e.out]; rfl, hB⟩
 ·
  have hl' : ((n : Int) != n') = true := by simp; omega
  have e : Hid (decide (xs = ys) = false) := decide_eq_false (fun h => hl (by rw [hn, hn', h]))
  clear hn hn' hI hI' hl
  go_enter Try.func77, Try.ntmps77
  go_wp2
  go_ret
  exact ⟨by rw [e.out]; rfl, Below.refl _ _⟩
theorem one_right : rightG ⟨#[97]⟩ (plainT [⟨none, 0, [], 1, 0, 1⟩]) = 0 := by decide +kernel
theorem plainT_same {ts us : List TaskV} (h : plainT ts = plainT us) {j : Nat} {t : TaskV} (ht : ts[j]? = some t) : ∃ u, us[j]? = some u ∧ u.ns = t.ns ∧ u.tr = t.tr ∧ u.wt = t.wt ∧ u.le = t.le := by
 have h1 := plainT_get ht
 rw [h] at h1
 unfold plainT at h1
 rw [List.getElem?_map] at h1
 obtain ⟨u, hu, e⟩ := Option.map_eq_some_iff.1 h1
 have e1 := congrArg TaskP.needs e
 have e2 := congrArg TaskP.tries e
 have e3 := congrArg TaskP.wait e
 have e4 := congrArg TaskP.lease e
 exact ⟨u, hu, e1, e2, e3, e4⟩
set_option maxRecDepth 20000 in
set_option maxHeartbeats 2000000 in
theorem like16_same (s : ByteArray) (a a' : Option Addr) (c c' n n' : Nat) (ts us : List TaskV) (w : World) (hn : n = ts.length) (hn' : n' = us.length) (hT : IsT w a c ts) (hU : IsT w a' c' us) (hs : plainT ts = plainT us) :
  Calls Try.prog 34 #[.agg #[.string s, .slice a n c], .agg #[.string s, .slice a' n' c']] w fun e w' => e = .returned (.bool true) ∧ Below w.heap.size w w' := by
 obtain rfl : n = n' := by rw [hn, hn', ← plainT_length ts, ← plainT_length us, hs]
 have hnm : n ≤ 9223372036854775807 := by rw [hn]; exact Nat.le_trans hT.1 hT.2.1
 obtain ⟨W, hW⟩ : ∃ W, W = (w.alloc (.cells #[.string s, .slice a n c] 24)).alloc (.cells #[.string s, .slice a' n c'] 24) := ⟨_, rfl⟩
 have hB0 : Below w.heap.size w W := by rw [hW]; exact ((Below.refl _ _).alloc (Nat.le_refl _) _).alloc (by simp) _
 have bX : BoxL W w.heap.size [.string s, .slice a n c] := by rw [hW]; exact (boxL_new _ _ _ rfl).alloc _
 have bY : BoxL W (w.heap.size + 1) [.string s, .slice a' n c'] := by rw [hW]; exact boxL_new _ _ _ (by simp)
 have HN : Hid (n = ts.length) := hn
 have HT : Hid (IsT W a c ts) := hT.below hB0
 have HU : Hid (IsT W a' c' us) := hU.below hB0
 have HS : Hid (plainT ts = plainT us) := hs
 have q0 := bX.1 0 _ rfl
 have q1 := bX.1 1 _ rfl
 have r0 := bY.1 0 _ rfl
 have r1 := bY.1 1 _ rfl
 have es := str_ne_false (rfl : s = s)
 clear hn hn' hT hU hs bX bY
 rw [hW] at q0 q1 r0 r1
 go_enter Try.func34, Try.ntmps34
 go_wp2
 rw [← hW]
 rw [← hW] at q0 q1 r0 r1
 clear hW
 go_loopw [25] (fun v wr => ∃ j : Nat, j ≤ n ∧ v = .int .i64 j ∧ Below W.heap.size W wr) (fun v _ => n - (intOf v).toNat)
 case atStart => exact ⟨0, by omega, rfl, Below.refl _ _⟩
 case round =>
  obtain ⟨j, hj, rfl, hB⟩ := hrel
  by_cases hlt : j < n
  ·
   have hlt' : (j : Int) < n := by omega
   obtain ⟨t, ht⟩ : ∃ t, ts[j]? = some t := ⟨_, List.getElem?_eq_getElem (by rw [← HN.out]; exact hlt)⟩
   obtain ⟨u, hu, e1, e2, e3, e4⟩ := plainT_same HS.out ht
   obtain ⟨b, o, rfl, -, c0, c1, c2, c3⟩ := HT.out.2.2.2 j t ht
   obtain ⟨b', o', rfl, -, d0, d1, d2, d3⟩ := HU.out.2.2.2 j u hu
   rw [e1] at d0
   rw [e2] at d1
   rw [e3] at d2
   rw [e4] at d3
   have hI := HT.out.2.2.1 t (List.mem_of_getElem? ht)
   have hJ := HU.out.2.2.1 u (List.mem_of_getElem? hu)
   rw [e1] at hJ
   have cS : ∀ V, Below W.heap.size W V → Calls Try.prog 77 #[.slice t.a t.ns.length t.c, .slice u.a t.ns.length u.c] V fun e w' => e = .returned (.bool true) ∧ Below V.heap.size V w' := fun V hb => by
    have := sameInts_any t.a u.a t.c u.c t.ns.length t.ns.length t.ns t.ns V rfl rfl (hI.below hb) (hJ.below hb)
    rw [decide_eq_true rfl] at this
    exact this
   obtain ⟨V1, hV1⟩ : ∃ V, V = wr.alloc (.cells #[.slice t.a t.ns.length t.c, .int .i64 t.tr, .int .i64 t.wt, .int .i64 t.le] 50) := ⟨_, rfl⟩
   obtain ⟨V2, hV2⟩ : ∃ V, V = V1.alloc (.cells #[.slice u.a t.ns.length u.c, .int .i64 t.tr, .int .i64 t.wt, .int .i64 t.le] 50) := ⟨_, rfl⟩
   have b1 : Below wr.heap.size wr V1 := by rw [hV1]; exact (Below.refl _ _).alloc (Nat.le_refl _) _
   have z1 : V1.heap.size = wr.heap.size + 1 := by rw [hV1]; simp
   have b2 : Below V1.heap.size V1 V2 := by rw [hV2]; exact (Below.refl _ _).alloc (Nat.le_refl _) _
   have x1 : BoxL V2 wr.heap.size [.slice t.a t.ns.length t.c, .int .i64 t.tr, .int .i64 t.wt, .int .i64 t.le] := (show BoxL V1 _ _ by rw [hV1]; exact boxL_new _ _ _ rfl).below b2
   have x2 : BoxL V2 (wr.heap.size + 1) [.slice u.a t.ns.length u.c, .int .i64 t.tr, .int .i64 t.wt, .int .i64 t.le] := by rw [hV2]; exact boxL_new _ _ _ z1.symm
   have hB2 : Below W.heap.size W V2 := Below.tr (Below.tr hB b1) b2
   have k0 := cell_below hB c0
   have k1 := cell_below hB c1
   have k2 := cell_below hB c2
   have k3 := cell_below hB c3
   have l0 := cell_below (Below.tr hB b1) d0
   have l1 := cell_below (Below.tr hB b1) d1
   have l2 := cell_below (Below.tr hB b1) d2
   have l3 := cell_below (Below.tr hB b1) d3
   have p1 := cell_below (Below.tr hB b1) r1
   clear e1 e2 e3 e4 hI hJ c0 c1 c2 c3 d0 d1 d2 d3 ht hu
   generalize t.a = ta at *
   generalize t.c = tc at *
   generalize t.ns.length = k at *
   generalize t.tr = t1 at *
   generalize t.wt = t2 at *
   generalize t.le = t3 at *
   generalize u.a = ua at *
   generalize u.c = uc at *
   rw [hV1] at l0 l1 l2 l3 p1
   go_wp2_with (go_at_call 77; rw [← hV1, ← hV2]; refine (cS _ hB2).mono ?_; rintro e w3 ⟨rfl, hb3⟩; have hB3 := Below.tr hB2 hb3; have y1 := x1.below hb3; have y2 := x2.below hb3; have m1 := y1.1 1 _ rfl; have m2 := y1.1 2 _ rfl; have m3 := y1.1 3 _ rfl; have n1 := y2.1 1 _ rfl; have n2 := y2.1 2 _ rfl; have n3 := y2.1 3 _ rfl)
   go_roundw
   case rel => exact ⟨j + 1, by omega, by go_num, hB3⟩
   case measure => simp [intOf]; omega
  ·
   obtain rfl : j = n := by omega
   have hx : ¬ (j : Int) < j := by omega
   go_wp2
   go_ret
   exact ⟨rfl, Below.tr hB0 hB⟩
set_option maxRecDepth 20000 in
set_option maxHeartbeats 2000000 in
theorem sameStates_any (a a' : Option Addr) (c c' n n' : Nat) (ss : List StP) (w : World) (hZ : IsZ w a c ss) (hn : n = ss.length) (hZ' : IsZ w a' c' ss) (hn' : n' = ss.length) :
  Calls Try.prog 35 #[.slice a n c, .slice a' n' c'] w fun e w' => e = .returned (.bool true) ∧ Below w.heap.size w w' := by
 obtain rfl : n = n' := by omega
 have HN : Hid (n = ss.length) := hn
 have hnm : n ≤ 9223372036854775807 := by rw [hn]; exact hZ.size
 have hc1 : n ≤ c := by rw [hn]; exact hZ.1
 have hc2 : n ≤ c' := by rw [hn]; exact hZ'.1
 have hm1 : c ≤ 9223372036854775807 := hZ.2.1
 have hm2 : c' ≤ 9223372036854775807 := hZ'.2.1
 clear hn hn'
 have HZ : Hid (IsZ w a c ss) := hZ
 have HZ' : Hid (IsZ w a' c' ss) := hZ'
 clear hZ hZ'
 go_enter Try.func35, Try.ntmps35
 go_wp2
 go_loopw [13] (fun v wr => ∃ j : Nat, j ≤ n ∧ v = .int .i64 j ∧ Below w.heap.size w wr) (fun v _ => n - (intOf v).toNat)
 case atStart => exact ⟨0, Nat.zero_le _, rfl, Below.refl _ _⟩
 case round =>
  obtain ⟨j, hj, rfl, hB⟩ := hrel
  by_cases hlt : j < n
  ·
   have hlt' : (j : Int) < n := by omega
   obtain ⟨s, hs⟩ : ∃ s, ss[j]? = some s := ⟨_, List.getElem?_eq_getElem (by rw [← HN.out]; exact hlt)⟩
   obtain ⟨b, o, rfl, -⟩ := HZ.out.some (by have := HN.out; omega)
   obtain ⟨b', o', rfl, -⟩ := HZ'.out.some (by have := HN.out; omega)
   obtain ⟨z0, z1, z2, z3, z4⟩ := ((HZ.out.below hB).drew).at hs
   obtain ⟨y0, y1, y2, y3, y4⟩ := ((HZ'.out.below hB).drew).at hs
   obtain ⟨si, st, sd, sk, sr⟩ := s
   dsimp only at *
   clear hs
   go_wp2
   go_region
   go_wp2
   go_roundw
   case rel => exact ⟨j + 1, by omega, by go_num, hB.drew⟩
   case measure => simp [intOf]; omega
  ·
   obtain rfl : n = j := by omega
   have hx : ¬ (n : Int) < n := by omega
   go_wp2
   go_ret
   exact ⟨rfl, hB⟩
set_option maxRecDepth 20000 in
set_option maxHeartbeats 2000000 in
theorem like19_same (ky nm : ByteArray) (ta ta' : Option Addr) (tn tn' tc tc' : Nat) (is : Int) (sa sa' : Option Addr) (n n' sc sc' : Nat) (tv tw : List TaskV) (ss : List StP) (w : World) (hT : IsT w ta tc tv) (htn : tn = tv.length) (hT' : IsT w ta' tc' tw) (htn' : tn' = tw.length) (ht : plainT tv = plainT tw) (hZ : IsZ w sa sc ss) (hn : n = ss.length) (hZ' : IsZ w sa' sc' ss) (hn' : n' = ss.length) :
  Calls Try.prog 12 #[.agg #[.string ky, .string nm, .slice ta tn tc, .int .i64 is, .slice sa n sc], .agg #[.string ky, .string nm, .slice ta' tn' tc', .int .i64 is, .slice sa' n' sc']] w fun e w' => e = .returned (.bool true) ∧ Below w.heap.size w w' := by
 obtain ⟨W0, hW0⟩ : ∃ W0, W0 = (w.alloc (.cells #[.string ky, .string nm, .slice ta tn tc, .int .i64 is, .slice sa n sc] 27)).alloc (.cells #[.string ky, .string nm, .slice ta' tn' tc', .int .i64 is, .slice sa' n' sc'] 27) := ⟨_, rfl⟩
 have hB0 : Below w.heap.size w W0 := by rw [hW0]; exact bel2 w _ _
 have BX : BoxL W0 w.heap.size [.string ky, .string nm, .slice ta tn tc, .int .i64 is, .slice sa n sc] := by rw [hW0]; exact (boxL_new w [.string ky, .string nm, .slice ta tn tc, .int .i64 is, .slice sa n sc] _ rfl).alloc _
 have BY : BoxL W0 (w.heap.size + 1) [.string ky, .string nm, .slice ta' tn' tc', .int .i64 is, .slice sa' n' sc'] := by rw [hW0]; exact boxL_new _ [.string ky, .string nm, .slice ta' tn' tc', .int .i64 is, .slice sa' n' sc'] _ (by simp)
 have cL := fun W (h : Below w.heap.size w W) => like16_same nm ta ta' tc tc' tn tn' tv tw W htn htn' (hT.below h) (hT'.below h) ht
 have cS := fun W (h : Below w.heap.size w W) => sameStates_any sa sa' sc sc' n n' ss W (hZ.below h) hn (hZ'.below h) hn'
 have x0 := BX.1 0 _ rfl; have x1 := BX.1 1 _ rfl; have x2 := BX.1 2 _ rfl; have x3 := BX.1 3 _ rfl; have x4 := BX.1 4 _ rfl
 have y0 := BY.1 0 _ rfl; have y1 := BY.1 1 _ rfl; have y2 := BY.1 2 _ rfl; have y3 := BY.1 3 _ rfl; have y4 := BY.1 4 _ rfl
 clear hT htn hT' htn' ht hZ hn hZ' hn'
 rw [hW0] at x0 x1 x2 x3 x4 y0 y1 y2 y3 y4
 go_enter Try.func12, Try.ntmps12
 go_wp2_with (first
  | (go_at_call 34; rw [← hW0]; refine (cL _ hB0).mono ?_; rintro e w1 ⟨rfl, hb⟩; clear x0 x1 x2 x3 x4 y0 y1 y2 y3 y4; have BX1 := BX.below hb; have BY1 := BY.below hb; have hB := Below.tr hB0 hb; have x0 := BX1.1 0 _ rfl; have x1 := BX1.1 1 _ rfl; have x2 := BX1.1 2 _ rfl; have x3 := BX1.1 3 _ rfl; have x4 := BX1.1 4 _ rfl; have y0 := BY1.1 0 _ rfl; have y1 := BY1.1 1 _ rfl; have y2 := BY1.1 2 _ rfl; have y3 := BY1.1 3 _ rfl; have y4 := BY1.1 4 _ rfl)
  | (go_at_call 35; refine (cS _ hB).mono ?_; rintro e w2 ⟨rfl, hb2⟩))
 go_ret
 exact ⟨rfl, Below.tr hB hb2⟩
structure Said (V : World) (E : Int) (ky nm : ByteArray) (is : Int) (fs : List TaskP) (zs : List StP) (xk xn : ByteArray) (xa : Option Addr) (xm xc : Nat) (xi : Int) (xz : Option Addr) (xq xl : Nat) : Prop where
 it : ∃ xt xr, XR V xa xm xc xz xq xl xt xr ∧ (E = 0 → ky = xk ∧ nm = xn ∧ is = xi ∧ plainT xt = fs ∧ zs = xr) ∧ (E ≠ 0 → ⟨#[]⟩ = xk ∧ ⟨#[]⟩ = xn ∧ none = xa ∧ 0 = xm ∧ 0 = xc ∧ 0 = xi ∧ none = xz ∧ 0 = xq ∧ 0 = xl ∧ [] = xt ∧ [] = xr)
theorem Said.below {V V' : World} {E : Int} {ky nm : ByteArray} {is : Int} {fs : List TaskP} {zs : List StP} {xk xn : ByteArray} {xa : Option Addr} {xm xc : Nat} {xi : Int} {xz : Option Addr} {xq xl : Nat} (h : Said V E ky nm is fs zs xk xn xa xm xc xi xz xq xl) (hb : Below V.heap.size V V') : Said V' E ky nm is fs zs xk xn xa xm xc xi xz xq xl := by
 obtain ⟨xt, xr, h1, h2, h3⟩ := h.it
 exact ⟨xt, xr, h1.below hb, h2, h3⟩
theorem ToldU.said {w w' : World} {E : Int} {ky nm : ByteArray} {is : Int} {fs : List TaskP} {zs : List StP} {e : Ending} (h : ToldU w E ky nm is fs zs e w') : ∃ xk xn xa xm xc xi xz xq xl, e = .returned (.tuple #[.agg #[.string xk, .string xn, .slice xa xm xc, .int .i64 xi, .slice xz xq xl], .int .i64 E]) ∧ Said w' E ky nm is fs zs xk xn xa xm xc xi xz xq xl ∧ Below w.heap.size w w' := by
 obtain ⟨xk, xn, xa, xm, xc, xi, xs, xq, xsc, xt, xz, h1, h2, h3, h4, h5⟩ := h
 exact ⟨_, _, _, _, _, _, _, _, _, h1, ⟨xt, xz, h2, h3, h4⟩, h5⟩
theorem said_zero (V : World) {E : Int} (hE : E ≠ 0) (ky nm : ByteArray) (is : Int) (fs : List TaskP) (zs : List StP) : Said V E ky nm is fs zs ⟨#[]⟩ ⟨#[]⟩ none 0 0 0 none 0 0 :=
 ⟨[], [], ⟨isT_nil _ _ _ (Nat.zero_le _), rfl, isZ_nil _ _ _ (Nat.zero_le _), rfl⟩, fun e => absurd e hE, fun _ => ⟨rfl, rfl, rfl, rfl, rfl, rfl, rfl, rfl, rfl, rfl, rfl⟩⟩
theorem likeS_any {V : World} {E : Int} {ky nm : ByteArray} {is : Int} {fs : List TaskP} {zs : List StP} {xk xn yk yn : ByteArray} {xa ya : Option Addr} {xm xc ym yc : Nat} {xi yi : Int} {xz yz : Option Addr} {xq xl yq yl : Nat} (hx : Said V E ky nm is fs zs xk xn xa xm xc xi xz xq xl) (hy : Said V E ky nm is fs zs yk yn ya ym yc yi yz yq yl) :
  Calls Try.prog 12 #[.agg #[.string xk, .string xn, .slice xa xm xc, .int .i64 xi, .slice xz xq xl], .agg #[.string yk, .string yn, .slice ya ym yc, .int .i64 yi, .slice yz yq yl]] V fun e w' => e = .returned (.bool true) ∧ Below V.heap.size V w' := by
 obtain ⟨xt, xr, h1, h2, h3⟩ := hx.it
 obtain ⟨yt, yr, g1, g2, g3⟩ := hy.it
 by_cases h0 : E = 0
 ·
  obtain ⟨rfl, rfl, rfl, hxt, rfl⟩ := h2 h0
  obtain ⟨rfl, rfl, rfl, hyt, rfl⟩ := g2 h0
  exact like19_same ky nm xa ya xm ym xc yc is xz yz xq yq xl yl xt yt zs V h1.hT h1.hm g1.hT g1.hm (hxt.trans hyt.symm) h1.hZ h1.hq g1.hZ g1.hq
 ·
  obtain ⟨rfl, rfl, rfl, rfl, rfl, rfl, rfl, rfl, rfl, rfl, rfl⟩ := h3 h0
  obtain ⟨rfl, rfl, rfl, rfl, rfl, rfl, rfl, rfl, rfl, rfl, rfl⟩ := g3 h0
  exact like19_same ⟨#[]⟩ ⟨#[]⟩ none none 0 0 0 0 0 none none 0 0 0 0 [] [] [] V h1.hT rfl g1.hT rfl rfl h1.hZ rfl g1.hZ rfl
def placeI (o : Option Nat) : Int := match o with | none => -1 | some j => j
set_option maxRecDepth 20000 in
set_option maxHeartbeats 1000000 in
theorem refHeld_any (ky nm : ByteArray) (ta : Option Addr) (tn tc : Nat) (is : Int) (sa : Option Addr) (n sc : Nat) (ss : List StP) (k : Int) (w : World) (hZ : IsZ w sa sc ss) (hn : n = ss.length) :
  Calls Try.prog 63 #[.agg #[.string ky, .string nm, .slice ta tn tc, .int .i64 is, .slice sa n sc], .int .i64 k] w fun e w' => e = .returned (.int .i64 (placeI (heldAt ss k))) ∧ Below w.heap.size w w' := by
 have HN : Hid (n = ss.length) := hn
 have hnm : n ≤ 9223372036854775807 := by rw [hn]; exact hZ.size
 have hnc : n ≤ sc := by rw [hn]; exact hZ.1
 have hcm : sc ≤ 9223372036854775807 := hZ.2.1
 have HZ : Hid (IsZ w sa sc ss) := hZ
 have hB : Below w.heap.size w (w.alloc (.cells #[.string ky, .string nm, .slice ta tn tc, .int .i64 is, .slice sa n sc] 27)) := (Below.refl _ _).alloc (Nat.le_refl _) _
 have h00 : Hid (∀ (i : Nat) s, i < 0 → ss[i]? = some s → ¬ (s.i = 2 ∧ s.k = k)) := fun i s h => absurd h (Nat.not_lt_zero _)
 obtain ⟨HA, hHA⟩ : ∃ HA, HA = placeI (heldAt ss k) := ⟨_, rfl⟩
 rw [← hHA]
 have HHA : Hid (HA = placeI (heldAt ss k)) := hHA
 clear hn hZ hHA
 go_enter Try.func63, Try.ntmps63
 go_wp2
 go_loopw [10] (fun v wr => ∃ j : Nat, j ≤ n ∧ v = .int .i64 j ∧ Hid (∀ (i : Nat) s, i < j → ss[i]? = some s → ¬ (s.i = 2 ∧ s.k = k)) ∧ Below w.heap.size w wr) (fun v _ => n - (intOf v).toNat)
 case atStart => exact ⟨0, by omega, rfl, h00, hB⟩
 case round =>
  clear h00 hB
  obtain ⟨j, hj, rfl, hh, hB⟩ := hrel
  by_cases hlt : j < n
  ·
   have hlt' : (j : Int) < n := by omega
   obtain ⟨x, hx⟩ : ∃ x, ss[j]? = some x := ⟨_, List.getElem?_eq_getElem (by rw [← HN.out]; exact hlt)⟩
   obtain ⟨b, o, rfl, hbl⟩ := HZ.out.some (by rw [← HN.out]; omega)
   obtain ⟨z0, z1, z2, z3, z4⟩ := (HZ.out.below hB).at hx
   have hB2 : Below w.heap.size w (wr.alloc (.cells #[.int .i64 x.i, .int .i64 x.t, .int .i64 x.d, .int .i64 x.k, .string x.r] 52)) := hB.alloc hB.size _
   clear hbl
   by_cases hk : x.i = 2 ∧ x.k = k
   ·
    have hT : Hid (HA = j) := by
     show _ = _
     rw [HHA.out]
     have : heldAt ss k = some j := idx_is hx (decide_eq_true hk) fun i hi u hu => decide_eq_false (hh.out i u hi hu)
     rw [this]; rfl
    obtain ⟨xi, xt, xd, xk, xr⟩ := x
    obtain ⟨h1, h2⟩ := hk
    dsimp only at h1 h2
    subst h1 h2
    clear hx
    go_wp2
    go_ret
    exact ⟨by rw [hT.out]; rfl, hB2⟩
   ·
    have hT : Hid (∀ (i : Nat) s, i < j + 1 → ss[i]? = some s → ¬ (s.i = 2 ∧ s.k = k)) := fun i s hi hs => by
     rcases Nat.lt_or_ge i j with h | h
     ·
      exact hh.out i s h hs
     ·
      obtain rfl : i = j := by omega
      rw [hx] at hs; cases hs; exact hk
    obtain ⟨xi, xt, xd, xk, xr⟩ := x
    dsimp only at hk
    clear hx
    by_cases h2 : xi = 2
    ·
     subst h2
     have h3 : (xk == k) = false := by
      rw [beq_eq_false_iff_ne]; exact fun e => hk ⟨rfl, e⟩
     clear hk
     go_wp2
     go_roundw
     case rel => exact ⟨j + 1, by omega, by go_num, hT, hB2⟩
     case measure => simp [intOf]; omega
    ·
     have h3 : (xi == 2) = false := by simpa using h2
     clear hk
     go_wp2
     go_roundw
     case rel => exact ⟨j + 1, by omega, by go_num, hT, hB2⟩
     case measure => simp [intOf]; omega
  ·
   obtain rfl : n = j := by omega
   have hT : Hid (HA = -1) := by
    show _ = _
    rw [HHA.out]
    have : heldAt ss k = none := idx_no fun i s hs => decide_eq_false (hh.out i s (by rw [HN.out]; exact (List.getElem?_eq_some_iff.1 hs).1) hs)
    rw [this]; rfl
   have hlt' : ¬ (n : Int) < n := by omega
   go_wp2
   go_ret
   exact ⟨by rw [hT.out]; rfl, hB⟩
def setI (ss : List StP) (p : Int) (x : StP) : List StP := if 0 ≤ p then ss.set p.toNat x else ss
theorem setI_length (ss : List StP) (p : Int) (x : StP) : (setI ss p x).length = ss.length := by unfold setI; split <;> simp
theorem setI_here {ss : List StP} {p : Int} {x : StP} {j : Nat} (h : (j : Int) = p) (hj : j < ss.length) : (setI ss p x)[j]? = some x := by
 subst h
 unfold setI
 rw [if_pos (by omega), Int.toNat_natCast, List.getElem?_set, if_pos rfl, if_pos hj]
theorem setI_other {ss : List StP} {p : Int} {x : StP} {j : Nat} (h : ¬ (j : Int) = p) : (setI ss p x)[j]? = ss[j]? := by
 unfold setI
 split
 ·
  rw [List.getElem?_set_ne (by omega)]
 ·
  rfl
structure RwAt (w : World) (h B : Nat) (v0 v1 v2 v3 u : Value) (l : List StP) : Prop where
 box : BoxL w h [v0, v1, v2, v3, u]
 row : w.ownsRow B 52 5 u l.length (cellsZ l)
 le : B ≤ w.heap.size
 hh : h < B
theorem RwAt.turns {P : Nat → Prop} {w w' : World} {h B : Nat} {v0 v1 v2 v3 u : Value} {l : List StP} (r : RwAt w h B v0 v1 v2 v3 u l) (t : Turns P w w') (hp : ¬ P h) (hb : ∀ k, P k → k < B) : RwAt w' h B v0 v1 v2 v3 u l :=
 ⟨boxL_turns r.box t hp, t.owns r.row fun g hg x => by have := (r.row.lt g hg).1; have := hb g x; omega, Nat.le_trans r.le t.size, r.hh⟩
theorem owns_offZ {w : World} {B : Nat} {v : Value} {n : Nat} {xs : List Value} (ho : w.ownsRow B 52 5 v n xs) {h : Nat} (hh : h < B) (i : Nat) (u : Value) : (w.setCell ⟨h, i, none⟩ u).ownsRow B 52 5 v n xs :=
 ((Turns.refl (fun k => k = h) w).setCell (p := ⟨h, i, none⟩) rfl u).owns ho fun g hg e => by have := (ho.lt g hg).1; omega
theorem RwAt.push {w : World} {h B : Nat} {v0 v1 v2 v3 u : Value} {l : List StP} (r : RwAt w h B v0 v1 v2 v3 u l) (x : StP) (hl : l.length ≤ 4096) :
  ∃ g cap w', (Builtin.append_ #[25, 25] 25 #[u, .slice (some ⟨w.heap.size, 0, none⟩) 1 1]).run Try.prog (w.alloc (.cells #[.int .i64 x.i, .int .i64 x.t, .int .i64 x.d, .int .i64 x.k, .string x.r] 52)) = .ok (.slice (some ⟨g, 0, none⟩) (l.length + 1) cap) w' ∧
   BoxL w' h [v0, v1, v2, v3, u] ∧ RwAt (w'.setCell ⟨h, 4, none⟩ (.slice (some ⟨g, 0, none⟩) (l.length + 1) cap)) h B v0 v1 v2 v3 (.slice (some ⟨g, 0, none⟩) (l.length + 1) cap) (l ++ [x]) ∧
   Turns (fun k => k = h ∨ B ≤ k) w (w'.setCell ⟨h, 4, none⟩ (.slice (some ⟨g, 0, none⟩) (l.length + 1) cap)) := by
 obtain ⟨g, cap, w', hrun, hown, hgr, hat, hge, hlt⟩ := push_St w B u l.length l x r.row r.le (by omega)
 have t0 : Turns (fun k => u.ownBlock = some k) w w' := ((Turns.refl _ _).alloc _).grown hgr (fun k hk => hk)
 have hbox : BoxL w' h [v0, v1, v2, v3, u] := boxL_turns r.box t0 fun hk => by have := (r.row.lt h hk).1; have := r.hh; omega
 refine ⟨g, cap, w', hrun, hbox, ⟨hbox.set 4 _, ?_, ?_, r.hh⟩, (t0.mono fun k hk => .inr (r.row.lt k hk).1).setCell (p := ⟨h, 4, none⟩) (.inl rfl) _⟩
 ·
  rw [List.length_append]
  exact owns_offZ hown r.hh 4 _
 ·
  have := t0.size
  have := r.le
  simp; omega
set_option maxRecDepth 20000 in
set_option maxHeartbeats 4000000 in
theorem refWith_any (ky nm : ByteArray) (ta : Option Addr) (tn tc : Nat) (is : Int) (sa : Option Addr) (n sc : Nat) (ss : List StP) (p : Int) (i t d k : Int) (r : ByteArray) (w : World) (hZ : IsZ w sa sc ss) (hn : n = ss.length) (hl : n ≤ 4096) (hr : r.size ≤ maxLen) :
  Calls Try.prog 47 #[.agg #[.string ky, .string nm, .slice ta tn tc, .int .i64 is, .slice sa n sc], .int .i64 p, .agg #[.int .i64 i, .int .i64 t, .int .i64 d, .int .i64 k, .string r]] w fun e w' => ∃ a' c', e = .returned (.agg #[.string ky, .string nm, .slice ta tn tc, .int .i64 is, .slice a' n c']) ∧ IsZ w' a' c' (setI ss p ⟨i, t, d, k, r⟩) ∧ From w.heap.size a' ∧ Below w.heap.size w w' := by
 have HN : Hid (n = ss.length) := hn
 have hnc : n ≤ sc := by rw [hn]; exact hZ.1
 have hcm : sc ≤ 9223372036854775807 := hZ.2.1
 have HZ : Hid (IsZ w sa sc ss) := hZ
 obtain ⟨qs, hqs⟩ : ∃ qs, qs = setI ss p ⟨i, t, d, k, r⟩ := ⟨_, rfl⟩
 rw [← hqs]
 have HQ : Hid (qs = setI ss p ⟨i, t, d, k, r⟩) := hqs
 have HQL : Hid (qs.length = n) := by show _ = _; rw [hqs, setI_length, hn]
 have HR : Hid (∀ s ∈ qs, s.r.size ≤ maxLen) := fun s hs => by
  obtain ⟨j, h1⟩ := List.getElem?_of_mem hs
  have hj : j < ss.length := by have := (List.getElem?_eq_some_iff.1 h1).1; rw [hqs, setI_length] at this; exact this
  by_cases e : (j : Int) = p
  ·
   rw [hqs, setI_here e hj] at h1
   rw [← Option.some.inj h1]; exact hr
  ·
   rw [hqs, setI_other e] at h1
   exact hZ.text h1
 clear hn hZ hqs
 have E4 : Hid (4 + w.heap.size = w.heap.size + 4) := Nat.add_comm _ _
 go_enter Try.func47, Try.ntmps47
 go_wp2
 go_loopw [20] (fun v wr => ∃ (j : Nat) (u : Value), j ≤ n ∧ v = .int .i64 j ∧ RwAt wr (w.heap.size + 1 + 1 + 1) (w.heap.size + 1 + 1 + 1 + 1) (.string ky) (.string nm) (.slice ta tn tc) (.int .i64 is) u (qs.take j) ∧ BoxL wr (w.heap.size + 1 + 1) [.string ⟨#[]⟩, .string ⟨#[]⟩, .slice none 0 0, .int .i64 0, .slice none 0 0] ∧ BoxL wr (w.heap.size + 1) [.int .i64 i, .int .i64 t, .int .i64 d, .int .i64 k, .string r] ∧ Below w.heap.size w wr) (fun v _ => n - (intOf v).toNat)
 case atStart =>
  refine ⟨0, .slice none 0 0, by omega, rfl, ⟨boxL_new _ [.string ky, .string nm, .slice ta tn tc, .int .i64 is, .slice none 0 0] 27 (by simp), ⟨by simp [cellsZ], .inl ⟨rfl, rfl⟩⟩, by simp, by omega⟩, ?_, ?_, ?_⟩
  ·
   exact (boxL_new _ [.string ⟨#[]⟩, .string ⟨#[]⟩, .slice none 0 0, .int .i64 0, .slice none 0 0] 27 (by simp)).alloc _
  ·
   exact ((boxL_new _ [.int .i64 i, .int .i64 t, .int .i64 d, .int .i64 k, .string r] 52 (by simp)).alloc _).alloc _
  ·
   exact ((((Below.refl _ _).alloc (Nat.le_refl _) _).alloc (by simp) _).alloc (by simp; omega) _).alloc (by simp; omega) _
 case round =>
  obtain ⟨j, u, hj, rfl, R, bo, bs, hB⟩ := hrel
  have hsz := hB.size
  have q4 := R.box.1 4 _ rfl
  have f4 := R.box.2 4 (by simp)
  by_cases hlt : j < n
  ·
   have hlt' : (j : Int) < n := by omega
   obtain ⟨x, hx⟩ : ∃ x, ss[j]? = some x := ⟨_, List.getElem?_eq_getElem (by rw [← HN.out]; exact hlt)⟩
   obtain ⟨b, o, rfl, hbl⟩ := HZ.out.some (by rw [← HN.out]; omega)
   obtain ⟨z0, z1, z2, z3, z4⟩ := (HZ.out.below hB).at hx
   have hjl : j < ss.length := by rw [← HN.out]; exact hlt
   have hql : (qs.take j).length = j := by rw [List.length_take, HQL.out]; omega
   have al : ∀ y : Obj, Turns (fun _ => False) wr (wr.alloc y) := fun y => (Turns.refl _ _).alloc _
   by_cases e : (j : Int) = p
   ·
    have e' : ((j : Int) == p) = true := by simpa using e
    have hqj : qs[j]? = some ⟨i, t, d, k, r⟩ := by rw [HQ.out]; exact setI_here e hjl
    have R1 := R.turns (al (.cells #[.int .i64 i, .int .i64 t, .int .i64 d, .int .i64 k, .string r] 52)) id (fun _ x => x.elim)
    obtain ⟨g, cap, w5, hrun, hbox, R2, T2⟩ := R1.push ⟨i, t, d, k, r⟩ (by rw [hql]; omega)
    have tk : qs.take (j + 1) = qs.take j ++ [⟨i, t, d, k, r⟩] := by rw [List.take_add_one, hqj]; rfl
    rw [← tk, hql] at R2
    rw [hql] at hrun T2
    simp only [World.size_alloc] at hrun
    have bo2 := boxL_turns (bo.alloc (.cells #[.int .i64 i, .int .i64 t, .int .i64 d, .int .i64 k, .string r] 52)) T2 (by rintro (h | h) <;> omega)
    have bs2 := boxL_turns (bs.alloc (.cells #[.int .i64 i, .int .i64 t, .int .i64 d, .int .i64 k, .string r] 52)) T2 (by rintro (h | h) <;> omega)
    have hB2 := Below.turns (hB.alloc hsz (.cells #[.int .i64 i, .int .i64 t, .int .i64 d, .int .i64 k, .string r] 52)) T2 (by rintro i (h | h) <;> omega)
    have a4 := R1.box.1 4 _ rfl
    have c4 := hbox.1 4 _ rfl
    have d4 := hbox.2 4 (by simp)
    have bsx := bs.alloc (.cells #[.int .i64 x.i, .int .i64 x.t, .int .i64 x.d, .int .i64 x.k, .string x.r] 52)
    have s0 := bsx.1 0 _ rfl
    have s1 := bsx.1 1 _ rfl
    have s2 := bsx.1 2 _ rfl
    have s3 := bsx.1 3 _ rfl
    have s4 := bsx.1 4 _ rfl
    clear hqj hx e R R1 tk T2 hql bo bs bsx al hbox
    obtain ⟨xi, xt, xd, xk, xr⟩ := x
    go_wp2_with (at_builtin; refine Lib.wpList_append_run _ rfl _ _ _ _ rfl _ _ rfl rfl _ _ hrun ?_)
    go_roundw
    case rel => exact ⟨j + 1, _, by omega, by go_num, R2, bo2, bs2, hB2⟩
    case measure => simp [intOf]; omega
   ·
    have e' : ((j : Int) == p) = false := by simpa using e
    have hqj : qs[j]? = some ⟨x.i, x.t, x.d, x.k, x.r⟩ := by rw [HQ.out, setI_other e]; exact hx
    have R1 := R.turns (al (.cells #[.int .i64 x.i, .int .i64 x.t, .int .i64 x.d, .int .i64 x.k, .string x.r] 52)) id (fun _ x => x.elim)
    obtain ⟨g, cap, w5, hrun, hbox, R2, T2⟩ := R1.push ⟨x.i, x.t, x.d, x.k, x.r⟩ (by rw [hql]; omega)
    have tk : qs.take (j + 1) = qs.take j ++ [⟨x.i, x.t, x.d, x.k, x.r⟩] := by rw [List.take_add_one, hqj]; rfl
    rw [← tk, hql] at R2
    rw [hql] at hrun T2
    simp only [World.size_alloc] at hrun
    have bo2 := boxL_turns (bo.alloc (.cells #[.int .i64 x.i, .int .i64 x.t, .int .i64 x.d, .int .i64 x.k, .string x.r] 52)) T2 (by rintro (h | h) <;> omega)
    have bs2 := boxL_turns (bs.alloc (.cells #[.int .i64 x.i, .int .i64 x.t, .int .i64 x.d, .int .i64 x.k, .string x.r] 52)) T2 (by rintro (h | h) <;> omega)
    have hB2 := Below.turns (hB.alloc hsz (.cells #[.int .i64 x.i, .int .i64 x.t, .int .i64 x.d, .int .i64 x.k, .string x.r] 52)) T2 (by rintro i (h | h) <;> omega)
    have a4 := R1.box.1 4 _ rfl
    have c4 := hbox.1 4 _ rfl
    have d4 := hbox.2 4 (by simp)
    clear hqj hx e R R1 tk T2 hql bo bs al hbox
    obtain ⟨xi, xt, xd, xk, xr⟩ := x
    go_wp2_with (at_builtin; refine Lib.wpList_append_run _ rfl _ _ _ _ rfl _ _ rfl rfl _ _ hrun ?_)
    go_roundw
    case rel => exact ⟨j + 1, _, by omega, by go_num, R2, bo2, bs2, hB2⟩
    case measure => simp [intOf]; omega
  ·
   obtain rfl : n = j := by omega
   have hx : ¬ (n : Int) < n := by omega
   have htk : qs.take n = qs := List.take_of_length_le (Nat.le_of_eq HQL.out)
   have q0 := R.box.1 0 _ rfl
   have q1 := R.box.1 1 _ rfl
   have q2 := R.box.1 2 _ rfl
   have q3 := R.box.1 3 _ rfl
   have hown := R.row
   rw [htk] at hown
   obtain ⟨a', c', hv, hZ', hF⟩ := owned_isZ hown rfl HR.out
   rw [HQL.out] at hv
   subst hv
   have g0 := bo.2 0 (by simp)
   have g1 := bo.2 1 (by simp)
   have g2 := bo.2 2 (by simp)
   have g3 := bo.2 3 (by simp)
   have g4 := bo.2 4 (by simp)
   have o0 := bo.1 0 _ rfl
   have o1 := bo.1 1 _ rfl
   have o2 := bo.1 2 _ rfl
   have o3 := bo.1 3 _ rfl
   have o4 := bo.1 4 _ rfl
   clear R hown
   go_wp2
   have zz := ((((bo.set 0 (.string ky)).set 1 (.string nm)).set 2 (.slice ta tn tc)).set 3 (.int .i64 is)).set 4 (.slice a' n c')
   have z0 := zz.1 0 _ rfl
   have z1 := zz.1 1 _ rfl
   have z2 := zz.1 2 _ rfl
   have z3 := zz.1 3 _ rfl
   have z4 := zz.1 4 _ rfl
   have T : Turns (fun k => k = w.heap.size + 1 + 1) wr (((((wr.setCell ⟨w.heap.size + 1 + 1, 0, none⟩ (.string ky)).setCell ⟨w.heap.size + 1 + 1, 1, none⟩ (.string nm)).setCell ⟨w.heap.size + 1 + 1, 2, none⟩ (.slice ta tn tc)).setCell ⟨w.heap.size + 1 + 1, 3, none⟩ (.int .i64 is)).setCell ⟨w.heap.size + 1 + 1, 4, none⟩ (.slice a' n c')) :=
    (((((Turns.refl (fun k => k = w.heap.size + 1 + 1) wr).setCell (p := ⟨w.heap.size + 1 + 1, 0, none⟩) rfl _).setCell (p := ⟨w.heap.size + 1 + 1, 1, none⟩) rfl _).setCell (p := ⟨w.heap.size + 1 + 1, 2, none⟩) rfl _).setCell (p := ⟨w.heap.size + 1 + 1, 3, none⟩) rfl _).setCell (p := ⟨w.heap.size + 1 + 1, 4, none⟩) rfl _
   exact bodyPost_ret (v := .agg #[.string ky, .string nm, .slice ta tn tc, .int .i64 is, .slice a' n c']) (by simp [results, Try.results47, go_sem, z0, z1, z2, z3, z4]) rfl ⟨a', c', rfl, hZ'.turns T (fun x hx e => by have := hF x hx; omega), fun x hx => by have := hF x hx; omega, Below.turns hB T (by intro i h; omega)⟩
theorem refAfter_any (x n : Int) (w : World) (hn : n ≤ 9223372036854775807) :
  Calls Try.prog 90 #[.int .i64 x, .int .i64 n] w fun e w' => e = .returned (.int .i64 (afterF x n)) ∧ w = w' := by
 by_cases h0 : x < 1
 ·
  have e : Hid (afterF x n = 0) := afterF_none (w := x) (n := n) (.inl h0)
  go_enter Try.func90, Try.ntmps90
  go_wp2
  go_ret
  exact ⟨ret_int e.out.symm, rfl⟩
 by_cases h1 : n < 1
 ·
  have e : Hid (afterF x n = 0) := afterF_none (w := x) (n := n) (.inr h1)
  go_enter Try.func90, Try.ntmps90
  go_wp2
  go_ret
  exact ⟨ret_int e.out.symm, rfl⟩
 have E : Hid (afterF x n = aftK x (n - 1).toNat) := afterF_some (w := x) (n := n) (by omega) (by omega)
 by_cases h2 : 1048576 ≤ x
 ·
  have e : Hid (afterF x n = 1048576) := by show _ = _; rw [E.out, aftK_big h2]
  go_enter Try.func90, Try.ntmps90
  go_wp2
  go_ret
  exact ⟨ret_int e.out.symm, rfl⟩
 by_cases h3 : 40 < n
 ·
  have e : Hid (afterF x n = 1048576) := by show _ = _; rw [E.out, aftK_far (by omega) (by omega)]
  go_enter Try.func90, Try.ntmps90
  go_wp2
  go_ret
  exact ⟨ret_int e.out.symm, rfl⟩
 obtain ⟨D, hD⟩ : ∃ D : Nat → Int, D = fun k => x * 2 ^ k := ⟨_, rfl⟩
 have hDb : ∀ k : Nat, k ≤ 39 → 1 ≤ D k ∧ D k ≤ 576460752303423488 := fun k hk => by rw [hD]; exact dbl_small (by omega) (by omega) hk
 have D0 : D 0 = x := by rw [hD]; simp
 have DS : ∀ k, D (k + 1) = 2 * D k := fun k => by rw [hD]; show x * 2 ^ (k + 1) = 2 * (x * 2 ^ k); rw [Int.pow_succ, ← Int.mul_assoc, Int.mul_comm]
 have DE : ∀ k, aftK x k = min (D k) 1048576 := fun k => by rw [hD]; rfl
 clear hD
 go_enter Try.func90, Try.ntmps90
 go_wp2
 go_loop [0, 5] (fun p v => ∃ k : Nat, (k : Int) + 1 ≤ n ∧ v = .int .i64 ((k : Int) + 1) ∧ p = .int .i64 (D k)) (fun _ v => (n - intOf v).toNat)
 case atStart => exact ⟨0, by omega, rfl, by rw [D0]⟩
 case round =>
  clear D0
  obtain ⟨k, hk, rfl, rfl⟩ := hrel
  have h4 := hDb k (by omega)
  have h5 := DS k
  have h6 : Hid (aftK x k = min (D k) 1048576) := DE k
  clear DE DS hDb
  by_cases hlt : (k : Int) + 1 < n
  ·
   go_wp2
   go_round
   case rel => exact ⟨k + 1, by omega, by go_num, by rw [h5]⟩
   case measure => simp [intOf]; omega
  ·
   have h7 : Hid (afterF x n = aftK x k) := by show _ = _; rw [E.out, show (n - 1).toNat = k by omega]
   by_cases hb : 1048576 < D k
   ·
    go_wp2
    go_ret
    refine ⟨ret_int ?_, rfl⟩
    rw [h7.out, h6.out]
    omega
   ·
    go_wp2
    go_ret
    refine ⟨ret_int ?_, rfl⟩
    rw [h7.out, h6.out]
    omega
set_option maxRecDepth 20000 in
theorem refUntil_any (now : Int) (a : Option Addr) (c n : Nat) (ps : List Int) (w : World) (hI : IsI w a c ps) (hn : n = ps.length) (hnow : now ≤ 9223372036854775807) :
  Calls Try.prog 88 #[.int .i64 now, .slice a n c] w fun e w' => e = .returned (.int .i64 (untF now ps)) ∧ w = w' := by
 have HN : Hid (n = ps.length) := hn
 have hnm : n ≤ 9223372036854775807 := by rw [hn]; exact Nat.le_trans hI.1 hI.2.1
 have HU0 : Hid (untF now ps = min (max now 0 + sumP ps) 1099511627776) := rfl
 clear hn
 go_enter Try.func88, Try.ntmps88
 by_cases h1 : 0 < now
 ·
  have HU : Hid (untF now ps = min (now + sumP ps) 1099511627776) := by show _ = _; rw [HU0.out, show max now 0 = now by omega]
  go_wp2
  go_loop [5, 13] (fun p v => ∃ k : Nat, k ≤ n ∧ v = .int .i64 k ∧ p = .int .i64 (now + sumP (ps.take k)) ∧ now + sumP (ps.take k) ≤ 9223372036854775807) (fun _ v => n - (intOf v).toNat)
  case atStart => exact ⟨0, by omega, rfl, by simp [sumP], by (simp [sumP] <;> omega)⟩
  case round =>
   obtain ⟨k, hk, rfl, rfl, hb⟩ := hrel
   have h0 := sumP_nn (ps.take k)
   have hle := sumP_take_le ps k
   by_cases hlt : k < n
   ·
    have hlt' : (k : Int) < n := by omega
    obtain ⟨x, hx⟩ : ∃ x, ps[k]? = some x := ⟨_, List.getElem?_eq_getElem (by rw [← HN.out]; exact hlt)⟩
    obtain ⟨b, o, rfl, -, hc⟩ := hI.2.2 k x hx
    have E1 := sumP_take hx
    have E2 := sumP_at hx
    have E3 := sumP_nn ps
    obtain ⟨S, hS⟩ : ∃ S, S = now + sumP (ps.take k) := ⟨_, rfl⟩
    have HX : Hid (now + sumP (ps.take (k + 1)) = S + max x 0) := by show _ = _; rw [E1, hS]; omega
    rw [← hS] at hb ⊢
    have hS0 : 0 ≤ S := by omega
    by_cases c1 : 1099511627776 ≤ S
    ·
     have e : Hid (untF now ps = 1099511627776) := by show _ = _; rw [HU.out]; omega
     clear hS E1 E2 E3 h0 hle
     go_wp2
     go_ret
     exact ⟨ret_int e.out.symm, rfl⟩
    by_cases c2 : 1099511627776 ≤ x
    ·
     have e : Hid (untF now ps = 1099511627776) := by show _ = _; rw [HU.out]; omega
     clear hS E1 E2 E3 h0 hle
     go_wp2
     go_ret
     exact ⟨ret_int e.out.symm, rfl⟩
    clear hS E1 E2 E3 h0 hle
    by_cases c3 : 0 < x
    ·
     go_wp2
     go_round
     case rel => exact ⟨k + 1, by omega, by go_num, by rw [HX.out, show max x 0 = x by omega], by rw [HX.out]; omega⟩
     case measure => simp [intOf]; omega
    ·
     go_wp2
     go_round
     case rel => exact ⟨k + 1, by omega, by go_num, by rw [HX.out, show max x 0 = 0 by omega, Int.add_zero], by rw [HX.out]; omega⟩
     case measure => simp [intOf]; omega
   ·
    obtain rfl : k = n := by omega
    have e : Hid (untF now ps = min (now + sumP (ps.take k)) 1099511627776) := by show _ = _; rw [HU.out, HN.out, List.take_length]
    clear hle
    generalize now + sumP (ps.take k) = S at *
    by_cases c1 : 1099511627776 < S
    ·
     go_wp2
     go_ret
     exact ⟨ret_int (by rw [e.out]; omega), rfl⟩
    ·
     go_wp2
     go_ret
     exact ⟨ret_int (by rw [e.out]; omega), rfl⟩
 ·
  have HU : Hid (untF now ps = min ((0 : Int) + sumP ps) 1099511627776) := by show _ = _; rw [HU0.out, show max now 0 = 0 by omega]
  go_wp2
  go_loop [5, 13] (fun p v => ∃ k : Nat, k ≤ n ∧ v = .int .i64 k ∧ p = .int .i64 ((0 : Int) + sumP (ps.take k)) ∧ (0 : Int) + sumP (ps.take k) ≤ 9223372036854775807) (fun _ v => n - (intOf v).toNat)
  case atStart => exact ⟨0, by omega, rfl, by simp [sumP], by (simp [sumP] <;> omega)⟩
  case round =>
   obtain ⟨k, hk, rfl, rfl, hb⟩ := hrel
   have h0 := sumP_nn (ps.take k)
   have hle := sumP_take_le ps k
   by_cases hlt : k < n
   ·
    have hlt' : (k : Int) < n := by omega
    obtain ⟨x, hx⟩ : ∃ x, ps[k]? = some x := ⟨_, List.getElem?_eq_getElem (by rw [← HN.out]; exact hlt)⟩
    obtain ⟨b, o, rfl, -, hc⟩ := hI.2.2 k x hx
    have E1 := sumP_take hx
    have E2 := sumP_at hx
    have E3 := sumP_nn ps
    obtain ⟨S, hS⟩ : ∃ S, S = (0 : Int) + sumP (ps.take k) := ⟨_, rfl⟩
    have HX : Hid ((0 : Int) + sumP (ps.take (k + 1)) = S + max x 0) := by show _ = _; rw [E1, hS]; omega
    rw [← hS] at hb ⊢
    have hS0 : 0 ≤ S := by omega
    by_cases c1 : 1099511627776 ≤ S
    ·
     have e : Hid (untF now ps = 1099511627776) := by show _ = _; rw [HU.out]; omega
     clear hS E1 E2 E3 h0 hle
     go_wp2
     go_ret
     exact ⟨ret_int e.out.symm, rfl⟩
    by_cases c2 : 1099511627776 ≤ x
    ·
     have e : Hid (untF now ps = 1099511627776) := by show _ = _; rw [HU.out]; omega
     clear hS E1 E2 E3 h0 hle
     go_wp2
     go_ret
     exact ⟨ret_int e.out.symm, rfl⟩
    clear hS E1 E2 E3 h0 hle
    by_cases c3 : 0 < x
    ·
     go_wp2
     go_round
     case rel => exact ⟨k + 1, by omega, by go_num, by rw [HX.out, show max x 0 = x by omega], by rw [HX.out]; omega⟩
     case measure => simp [intOf]; omega
    ·
     go_wp2
     go_round
     case rel => exact ⟨k + 1, by omega, by go_num, by rw [HX.out, show max x 0 = 0 by omega, Int.add_zero], by rw [HX.out]; omega⟩
     case measure => simp [intOf]; omega
   ·
    obtain rfl : k = n := by omega
    have e : Hid (untF now ps = min ((0 : Int) + sumP (ps.take k)) 1099511627776) := by show _ = _; rw [HU.out, HN.out, List.take_length]
    clear hle
    generalize (0 : Int) + sumP (ps.take k) = S at *
    by_cases c1 : 1099511627776 < S
    ·
     go_wp2
     go_ret
     exact ⟨ret_int (by rw [e.out]; omega), rfl⟩
    ·
     go_wp2
     go_ret
     exact ⟨ret_int (by rw [e.out]; omega), rfl⟩
theorem refUntZ_any (now x : Int) (W : World) (z : Nat) (hz : z = W.heap.size) (hnow : now ≤ 9223372036854775807) :
  Calls Try.prog 88 #[.int .i64 now, .slice (some ⟨z, 0, none⟩) 1 1] (W.alloc (.cells #[.int .i64 x] 3)) fun e w' => e = .returned (.int .i64 (untF now [x])) ∧ W.alloc (.cells #[.int .i64 x] 3) = w' := by
 subst hz
 exact refUntil_any now _ 1 1 [x] _ (isI_one W x) rfl hnow
theorem refTime_any (now : Int) (w : World) (hnow : now ≤ 9223372036854775807) :
  Calls Try.prog 53 #[.int .i64 now] w fun e w' => e = .returned (.int .i64 (untF now [])) ∧ w = w' := by
 have c1 := fun W => refUntil_any now none 0 0 [] W (isI_nil W) rfl hnow
 generalize untF now [] = u at *
 go_enter Try.func53, Try.ntmps53
 go_wp2_with (go_at_call 88; refine (c1 _).mono ?_; rintro e w' ⟨rfl, rfl⟩)
 go_ret
 exact ⟨rfl, rfl⟩
set_option maxRecDepth 20000 in
set_option maxHeartbeats 1000000 in
theorem refReadyT_any (i t d k : Int) (r : ByteArray) (w : World) :
  Calls Try.prog 78 #[.agg #[.int .i64 i, .int .i64 t, .int .i64 d, .int .i64 k, .string r]] w fun e w' => e = .returned (vT (readyT ⟨i, t, d, k, r⟩)) ∧ Below w.heap.size w w' := by
 by_cases h : i = 0
 ·
  subst h
  rw [show readyT ⟨0, t, d, k, r⟩ = ⟨1, t, d, k, r⟩ from if_pos rfl]
  go_enter Try.func78, Try.ntmps78
  go_wp2
  exact bodyPost_ret (v := .agg #[.int .i64 1, .int .i64 t, .int .i64 d, .int .i64 k, .string r]) (by simp [results, Try.results78, go_sem]) rfl ⟨rfl, bel2 _ _ _⟩
 ·
  rw [show readyT ⟨i, t, d, k, r⟩ = ⟨i, t, d, k, r⟩ from if_neg h]
  have h' : (i == 0) = false := by simpa using h
  go_enter Try.func78, Try.ntmps78
  go_wp2
  exact bodyPost_ret (v := .agg #[.int .i64 i, .int .i64 t, .int .i64 d, .int .i64 k, .string r]) (by simp [results, Try.results78, go_sem]) rfl ⟨rfl, bel2 _ _ _⟩
set_option maxRecDepth 20000 in
set_option maxHeartbeats 1000000 in
theorem refCancelT_any (i t d k : Int) (r : ByteArray) (w : World) :
  Calls Try.prog 55 #[.agg #[.int .i64 i, .int .i64 t, .int .i64 d, .int .i64 k, .string r]] w fun e w' => e = .returned (vT (cancelT ⟨i, t, d, k, r⟩)) ∧ Below w.heap.size w w' := by
 by_cases h0 : i = 0
 ·
  subst h0
  rw [show cancelT ⟨0, t, d, k, r⟩ = ⟨5, t, 0, 0, r⟩ from if_pos (.inl rfl)]
  go_enter Try.func55, Try.ntmps55
  go_wp2
  exact bodyPost_ret (v := .agg #[.int .i64 5, .int .i64 t, .int .i64 0, .int .i64 0, .string r]) (by simp [results, Try.results55, go_sem]) rfl ⟨rfl, bel2 _ _ _⟩
 by_cases h1 : i = 1
 ·
  subst h1
  rw [show cancelT ⟨1, t, d, k, r⟩ = ⟨5, t, 0, 0, r⟩ from if_pos (.inr (.inl rfl))]
  go_enter Try.func55, Try.ntmps55
  go_wp2
  exact bodyPost_ret (v := .agg #[.int .i64 5, .int .i64 t, .int .i64 0, .int .i64 0, .string r]) (by simp [results, Try.results55, go_sem]) rfl ⟨rfl, bel2 _ _ _⟩
 by_cases h2 : i = 2
 ·
  subst h2
  rw [show cancelT ⟨2, t, d, k, r⟩ = ⟨5, t, 0, 0, r⟩ from if_pos (.inr (.inr rfl))]
  go_enter Try.func55, Try.ntmps55
  go_wp2
  exact bodyPost_ret (v := .agg #[.int .i64 5, .int .i64 t, .int .i64 0, .int .i64 0, .string r]) (by simp [results, Try.results55, go_sem]) rfl ⟨rfl, bel2 _ _ _⟩
 rw [show cancelT ⟨i, t, d, k, r⟩ = ⟨i, t, d, k, r⟩ from if_neg (fun h => h.elim h0 fun h => h.elim h1 h2)]
 have g0 : (i == 0) = false := by simpa using h0
 have g1 : (i == 1) = false := by simpa using h1
 have g2 : (i == 2) = false := by simpa using h2
 go_enter Try.func55, Try.ntmps55
 go_wp2
 exact bodyPost_ret (v := .agg #[.int .i64 i, .int .i64 t, .int .i64 d, .int .i64 k, .string r]) (by simp [results, Try.results55, go_sem]) rfl ⟨rfl, bel2 _ _ _⟩
set_option maxRecDepth 20000 in
set_option maxHeartbeats 1000000 in
theorem refBeatT_any (ta : Option Addr) (tl tc : Nat) (tr wt le : Int) (i t d k : Int) (r : ByteArray) (now : Int) (w : World) (hnow : now ≤ 9223372036854775807) :
  Calls Try.prog 64 #[.agg #[.slice ta tl tc, .int .i64 tr, .int .i64 wt, .int .i64 le], .agg #[.int .i64 i, .int .i64 t, .int .i64 d, .int .i64 k, .string r], .int .i64 now] w fun e w' => e = .returned (.tuple #[vT (beatT le ⟨i, t, d, k, r⟩ now), .int .i64 (heldE ⟨i, t, d, k, r⟩)]) ∧ Below w.heap.size w w' := by
 by_cases h : i = 2
 ·
  subst h
  have cU := fun W z hz => refUntZ_any now le W z hz hnow
  rw [show beatT le ⟨2, t, d, k, r⟩ now = ⟨2, t, untF now [le], k, r⟩ from if_pos rfl, show heldE ⟨2, t, d, k, r⟩ = 0 from if_pos rfl]
  generalize untF now [le] = u at *
  go_enter Try.func64, Try.ntmps64
  go_wp2_with (go_at_call 88; refine (cU _ _ (by simp)).mono ?_; rintro e w' ⟨rfl, rfl⟩)
  exact bodyPost_ret (v := .tuple #[.agg #[.int .i64 2, .int .i64 t, .int .i64 u, .int .i64 k, .string r], .int .i64 0]) (by simp [results, Try.results64, go_sem]) rfl ⟨rfl, bel4 _ _ _ _ _⟩
 ·
  rw [show beatT le ⟨i, t, d, k, r⟩ now = zeroT from if_neg h, show heldE ⟨i, t, d, k, r⟩ = 191 from if_neg h]
  have h' : (i != 2) = true := by simpa using h
  go_enter Try.func64, Try.ntmps64
  go_wp2
  exact bodyPost_ret (v := .tuple #[.agg #[.int .i64 0, .int .i64 0, .int .i64 0, .int .i64 0, .string ⟨#[]⟩], .int .i64 191]) (by simp [results, Try.results64, go_sem]) rfl ⟨rfl, bel3 _ _ _ _⟩
set_option maxRecDepth 20000 in
set_option maxHeartbeats 1000000 in
theorem refDoneT_any (i t d k : Int) (r x : ByteArray) (w : World) (hx : x.size ≤ maxLen) :
  Calls Try.prog 65 #[.agg #[.int .i64 i, .int .i64 t, .int .i64 d, .int .i64 k, .string r], .string x] w fun e w' => e = .returned (.tuple #[vT (doneT ⟨i, t, d, k, r⟩ x), .int .i64 (doneE ⟨i, t, d, k, r⟩ x)]) ∧ Below w.heap.size w w' := by
 have hxi : x.size ≤ 9223372036854775807 := hx
 by_cases h : i = 2
 ·
  subst h
  by_cases hs : x.size ≤ 16
  ·
   have hs' : ¬ (16 : Int) < x.size := by omega
   rw [show doneT ⟨2, t, d, k, r⟩ x = ⟨3, t, 0, 0, x⟩ by unfold doneT; rw [if_pos rfl, if_pos hs], show doneE ⟨2, t, d, k, r⟩ x = 0 by unfold doneE; rw [if_pos rfl, if_pos hs]]
   go_enter Try.func65, Try.ntmps65
   go_wp2
   exact bodyPost_ret (v := .tuple #[.agg #[.int .i64 3, .int .i64 t, .int .i64 0, .int .i64 0, .string x], .int .i64 0]) (by simp [results, Try.results65, go_sem]) rfl ⟨rfl, bel2 _ _ _⟩
  ·
   have hs' : (16 : Int) < x.size := by omega
   rw [show doneT ⟨2, t, d, k, r⟩ x = zeroT by unfold doneT; rw [if_pos rfl, if_neg hs], show doneE ⟨2, t, d, k, r⟩ x = 1 by unfold doneE; rw [if_pos rfl, if_neg hs]]
   go_enter Try.func65, Try.ntmps65
   go_wp2
   exact bodyPost_ret (v := .tuple #[.agg #[.int .i64 0, .int .i64 0, .int .i64 0, .int .i64 0, .string ⟨#[]⟩], .int .i64 1]) (by simp [results, Try.results65, go_sem]) rfl ⟨rfl, bel2 _ _ _⟩
 ·
  rw [show doneT ⟨i, t, d, k, r⟩ x = zeroT from if_neg h, show doneE ⟨i, t, d, k, r⟩ x = 191 from if_neg h]
  have h' : (i != 2) = true := by simpa using h
  go_enter Try.func65, Try.ntmps65
  go_wp2
  exact bodyPost_ret (v := .tuple #[.agg #[.int .i64 0, .int .i64 0, .int .i64 0, .int .i64 0, .string ⟨#[]⟩], .int .i64 191]) (by simp [results, Try.results65, go_sem]) rfl ⟨rfl, bel2 _ _ _⟩
set_option maxRecDepth 20000 in
set_option maxHeartbeats 1000000 in
theorem refFailLow_any (ta : Option Addr) (tl tc : Nat) (tr wt le : Int) (t d k : Int) (r : ByteArray) (now : Int) (w : World) (ht : t ≤ 9223372036854775807) (hnow : now ≤ 9223372036854775807) (hl : t < tr) :
  Calls Try.prog 66 #[.agg #[.slice ta tl tc, .int .i64 tr, .int .i64 wt, .int .i64 le], .agg #[.int .i64 2, .int .i64 t, .int .i64 d, .int .i64 k, .string r], .int .i64 now] w fun e w' => e = .returned (.tuple #[.agg #[.int .i64 1, .int .i64 t, .int .i64 (untF now [afterF wt t]), .int .i64 0, .string r], .int .i64 0]) ∧ w' = (((w.alloc (.cells #[.slice ta tl tc, .int .i64 tr, .int .i64 wt, .int .i64 le] 50)).alloc (.cells #[.int .i64 1, .int .i64 t, .int .i64 (untF now [afterF wt t]), .int .i64 0, .string r] 52)).alloc (.cells #[.int .i64 1, .int .i64 t, .int .i64 (untF now [afterF wt t]), .int .i64 0, .string r] 52)).alloc (.cells #[.int .i64 (afterF wt t)] 3) := by
 have hl2 : ¬ tr ≤ t := by omega
 have cA := fun W => refAfter_any wt t W ht
 have cU := fun W z hz => refUntZ_any now (afterF wt t) W z hz hnow
 generalize untF now [afterF wt t] = u at *
 generalize afterF wt t = v at *
 go_enter Try.func66, Try.ntmps66
 go_wp2_with (first
  | (go_at_call 90; refine (cA _).mono ?_; rintro e w' ⟨rfl, rfl⟩)
  | (go_at_call 88; refine (cU _ _ (by simp)).mono ?_; rintro e w' ⟨rfl, rfl⟩))
 exact bodyPost_ret (v := .tuple #[.agg #[.int .i64 1, .int .i64 t, .int .i64 u, .int .i64 0, .string r], .int .i64 0]) (by simp [results, Try.results66, go_sem]) rfl ⟨rfl, rfl⟩
set_option maxRecDepth 20000 in
set_option maxHeartbeats 1000000 in
theorem refFailHigh_any (ta : Option Addr) (tl tc : Nat) (tr wt le : Int) (t d k : Int) (r : ByteArray) (now : Int) (w : World) (hl : ¬ t < tr) :
  Calls Try.prog 66 #[.agg #[.slice ta tl tc, .int .i64 tr, .int .i64 wt, .int .i64 le], .agg #[.int .i64 2, .int .i64 t, .int .i64 d, .int .i64 k, .string r], .int .i64 now] w fun e w' => e = .returned (.tuple #[.agg #[.int .i64 4, .int .i64 t, .int .i64 0, .int .i64 0, .string r], .int .i64 0]) ∧ w' = ((w.alloc (.cells #[.slice ta tl tc, .int .i64 tr, .int .i64 wt, .int .i64 le] 50)).alloc (.cells #[.int .i64 4, .int .i64 t, .int .i64 0, .int .i64 0, .string r] 52)).alloc (.cells #[.int .i64 4, .int .i64 t, .int .i64 0, .int .i64 0, .string r] 52) := by
 go_enter Try.func66, Try.ntmps66
 go_wp2
 exact bodyPost_ret (v := .tuple #[.agg #[.int .i64 4, .int .i64 t, .int .i64 0, .int .i64 0, .string r], .int .i64 0]) (by simp [results, Try.results66, go_sem]) rfl ⟨rfl, rfl⟩
set_option maxRecDepth 20000 in
set_option maxHeartbeats 1000000 in
theorem refFailT_any (ta : Option Addr) (tl tc : Nat) (tr wt le : Int) (i t d k : Int) (r : ByteArray) (now : Int) (w : World) (ht : t ≤ 9223372036854775807) (hnow : now ≤ 9223372036854775807) :
  Calls Try.prog 66 #[.agg #[.slice ta tl tc, .int .i64 tr, .int .i64 wt, .int .i64 le], .agg #[.int .i64 i, .int .i64 t, .int .i64 d, .int .i64 k, .string r], .int .i64 now] w fun e w' => e = .returned (.tuple #[vT (failT tr wt ⟨i, t, d, k, r⟩ now), .int .i64 (heldE ⟨i, t, d, k, r⟩)]) ∧ Below w.heap.size w w' := by
 by_cases h : i = 2
 ·
  subst h
  rw [show heldE ⟨2, t, d, k, r⟩ = 0 from if_pos rfl]
  by_cases hl : t < tr
  ·
   rw [show failT tr wt ⟨2, t, d, k, r⟩ now = ⟨1, t, untF now [afterF wt t], 0, r⟩ by unfold failT; rw [if_pos rfl, if_pos hl]]
   exact (refFailLow_any ta tl tc tr wt le t d k r now w ht hnow hl).mono fun e w' hh => ⟨hh.1, by rw [hh.2]; exact bel4 _ _ _ _ _⟩
  ·
   rw [show failT tr wt ⟨2, t, d, k, r⟩ now = ⟨4, t, 0, 0, r⟩ by unfold failT; rw [if_pos rfl, if_neg hl]]
   exact (refFailHigh_any ta tl tc tr wt le t d k r now w hl).mono fun e w' hh => ⟨hh.1, by rw [hh.2]; exact bel3 _ _ _ _⟩
 ·
  rw [show failT tr wt ⟨i, t, d, k, r⟩ now = zeroT from if_neg h, show heldE ⟨i, t, d, k, r⟩ = 191 from if_neg h]
  have h' : (i != 2) = true := by simpa using h
  go_enter Try.func66, Try.ntmps66
  go_wp2
  exact bodyPost_ret (v := .tuple #[.agg #[.int .i64 0, .int .i64 0, .int .i64 0, .int .i64 0, .string ⟨#[]⟩], .int .i64 191]) (by simp [results, Try.results66, go_sem]) rfl ⟨rfl, bel3 _ _ _ _⟩
end Go.Proofs.Ytdpljpjbomhccaa
namespace Go.Proofs.Ytdpljpjbomhccaa
open Go.RowKit Plain Anylast
set_option linter.unusedVariables false
theorem setI_nat (ss : List StP) (j : Nat) (x : StP) : setI ss j x = ss.set j x := by unfold setI; rw [if_pos (by omega)]; rfl
def mendJ (ts : List TaskP) (ss : List StP) (j : Nat) : List StP := ss.mapIdx fun i s => if (decide (i < j) && readyI ts ss i) = true then readyT s else s
theorem mendJ_length (ts : List TaskP) (ss : List StP) (j : Nat) : (mendJ ts ss j).length = ss.length := by simp [mendJ]
theorem mendJ_zero (ts : List TaskP) (ss : List StP) : mendJ ts ss 0 = ss := by
 refine List.ext_getElem? fun i => ?_
 unfold mendJ
 rw [List.getElem?_mapIdx]
 cases ss[i]? <;> rfl
theorem mendJ_at {ts : List TaskP} {ss : List StP} {j i : Nat} {s : StP} (h : ss[i]? = some s) : (mendJ ts ss j)[i]? = some (if (decide (i < j) && readyI ts ss i) = true then readyT s else s) := by
 unfold mendJ; rw [List.getElem?_mapIdx, h]; rfl
theorem mendJ_done (ts : List TaskP) (ss : List StP) (j y : Nat) : isAt (mendJ ts ss j) y = 3 ↔ isAt ss y = 3 := by
 unfold isAt
 cases h : ss[y]? with
 | none =>
  have : (mendJ ts ss j)[y]? = none := by
   rw [List.getElem?_eq_none_iff, mendJ_length]
   exact List.getElem?_eq_none_iff.1 h
  rw [this]
 | some s =>
  rw [mendJ_at h]
  simp only [Option.map_some, Option.getD_some]
  split
  ·
   rw [ready_i]; split <;> omega
  ·
   rfl
theorem mendJ_succ {ts : List TaskP} {ss : List StP} {j : Nat} {s : StP} (hs : ss[j]? = some s) : mendJ ts ss (j + 1) = if readyI ts ss j = true then (mendJ ts ss j).set j (readyT s) else mendJ ts ss j := by
 have hl := (List.getElem?_eq_some_iff.1 hs).1
 refine List.ext_getElem? fun i => ?_
 by_cases hr : readyI ts ss j = true
 ·
  rw [if_pos hr]
  by_cases hi : j = i
  ·
   subst hi
   rw [mendJ_at hs, List.getElem?_set_self (by rw [mendJ_length]; exact hl), hr]
   simp
  ·
   rw [List.getElem?_set_ne hi]
   cases h : ss[i]? with
   | none => rw [List.getElem?_eq_none (by rw [mendJ_length]; exact List.getElem?_eq_none_iff.1 h), List.getElem?_eq_none (by rw [mendJ_length]; exact List.getElem?_eq_none_iff.1 h)]
   | some t =>
    rw [mendJ_at h, mendJ_at h]
    have : decide (i < j + 1) = decide (i < j) := by rw [Bool.eq_iff_iff, decide_eq_true_iff, decide_eq_true_iff]; omega
    rw [this]
 ·
  rw [if_neg hr]
  cases h : ss[i]? with
  | none => rw [List.getElem?_eq_none (by rw [mendJ_length]; exact List.getElem?_eq_none_iff.1 h), List.getElem?_eq_none (by rw [mendJ_length]; exact List.getElem?_eq_none_iff.1 h)]
  | some t =>
   rw [mendJ_at h, mendJ_at h]
   by_cases hi : j = i
   ·
    subst hi
    have : readyI ts ss j = false := by simpa using hr
    rw [this, Bool.and_false, Bool.and_false]
   ·
    have : decide (i < j + 1) = decide (i < j) := by rw [Bool.eq_iff_iff, decide_eq_true_iff, decide_eq_true_iff]; omega
    rw [this]
theorem mendJ_all (ts : List TaskP) (ss : List StP) : mendJ ts ss ss.length = ss.mapIdx fun i s => if readyI ts ss i then readyT s else s := by
 refine List.ext_getElem? fun i => ?_
 rw [List.getElem?_mapIdx]
 cases h : ss[i]? with
 | none =>
  rw [Option.map_none, List.getElem?_eq_none_iff, mendJ_length]
  exact List.getElem?_eq_none_iff.1 h
 | some s =>
  rw [mendJ_at h, Option.map_some, decide_eq_true (List.getElem?_eq_some_iff.1 h).1, Bool.true_and]
def MadeC (w : World) (ky nm : ByteArray) (ta : Option Addr) (tn tc : Nat) (is : Int) (sa : Option Addr) (n : Nat) (ss : List StP) (v : Value) (w' : World) : Prop :=
 ∃ a c, v = .agg #[.string ky, .string nm, .slice ta tn tc, .int .i64 is, .slice a n c] ∧ IsZ w' a c ss ∧ n = ss.length ∧ (a = sa ∨ From w.heap.size a) ∧ Below w.heap.size w w'
def withV (ky nm : ByteArray) (ta : Option Addr) (tn tc : Nat) (is : Int) (sa : Option Addr) (n sc j : Nat) (s x : StP) (B : Nat) (zs : List StP) : Nat → Value → World → Prop
 | 0, v, _ => v = .agg #[.string ky, .string nm, .slice ta tn tc, .int .i64 is, .slice sa n sc]
 | 1, v, _ => v = .int .i64 j
 | 2, v, _ => v = vT s
 | 3, v, _ => v = vT x
 | 4, v, w => ∃ a c, v = .agg #[.string ky, .string nm, .slice ta tn tc, .int .i64 is, .slice a n c] ∧ IsZ w a c zs ∧ From B a
 | _, _, _ => True
def withS (Y : World) (z : Nat) (ky nm : ByteArray) (ta : Option Addr) (tn tc : Nat) (is : Int) (n : Nat) (zs : List StP) : Nat → World → Prop
 | 0, V => Below Y.heap.size Y V
 | _, V => (∃ a c, BoxL V z [.string ky, .string nm, .slice ta tn tc, .int .i64 is, .slice a n c] ∧ IsZ V a c zs ∧ From Y.heap.size a) ∧ Turns (fun k => k = z) Y V
theorem withV_mono {ky nm : ByteArray} {ta : Option Addr} {tn tc : Nat} {is : Int} {sa : Option Addr} {n sc j : Nat} {s x : StP} {B z : Nat} {zs : List StP} (hz : z < B) (i : Nat) (v : Value) (X Y : World) (t : Turns (fun k => k = z) X Y) (hv : withV ky nm ta tn tc is sa n sc j s x B zs i v X) : withV ky nm ta tn tc is sa n sc j s x B zs i v Y := by
 match i, hv with
 | 0, hv => exact hv
 | 1, hv => exact hv
 | 2, hv => exact hv
 | 3, hv => exact hv
 | 4, hv =>
  obtain ⟨a, c, e, h, f⟩ := hv
  exact ⟨a, c, e, h.turns t fun y hy hk => by have := f y hy; have hk' : y.block = z := hk; omega, f⟩
 | i + 5, hv => trivial
theorem withS_put {Y X : World} {z : Nat} {ky nm : ByteArray} {ta : Option Addr} {tn tc : Nat} {is : Int} {sa a : Option Addr} {n sc c : Nat} {zs : List StP} (hz : z < Y.heap.size) (BX : BoxL Y z [.string ky, .string nm, .slice ta tn tc, .int .i64 is, .slice sa n sc]) (hb : Below Y.heap.size Y X) (hI : IsZ X a c zs) (hF : From Y.heap.size a) :
  withS Y z ky nm ta tn tc is n zs 1 (((((X.setCell ⟨z, 0, none⟩ (.string ky)).setCell ⟨z, 1, none⟩ (.string nm)).setCell ⟨z, 2, none⟩ (.slice ta tn tc)).setCell ⟨z, 3, none⟩ (.int .i64 is)).setCell ⟨z, 4, none⟩ (.slice a n c)) := by
 have tt := turns_set5 X z (.string ky) (.string nm) (.slice ta tn tc) (.int .i64 is) (.slice a n c)
 exact ⟨⟨a, c, boxL_set5 (BX.below hb) _ _ _ _ _, hI.turns tt fun y hy hk => by have := hF y hy; have hk' : y.block = z := hk; omega, hF⟩, (Turns.of_below hb).trans tt⟩
set_option maxRecDepth 20000 in
set_option maxHeartbeats 4000000 in
theorem refMend_any (ky nm : ByteArray) (ta : Option Addr) (tn tc : Nat) (is : Int) (sa : Option Addr) (n sc : Nat) (tv : List TaskV) (ss : List StP) (w : World) (hT : IsT w ta tc tv) (htn : tn = tv.length) (hZ : IsZ w sa sc ss) (hn : n = ss.length) (hnt : n = tn) (h10 : n ≤ 10) (hin : ∀ (i : Nat) t, tv[i]? = some t → ∀ x ∈ t.ns, 0 ≤ x ∧ x < n) :
  Calls Try.prog 36 #[.agg #[.string ky, .string nm, .slice ta tn tc, .int .i64 is, .slice sa n sc]] w fun e w' => ∃ v, e = .returned v ∧ MadeC w ky nm ta tn tc (mendS (plainT tv) ss is).2 sa n (mendS (plainT tv) ss is).1 v w' := by
 obtain ⟨W0, hW0⟩ : ∃ W0, W0 = (w.alloc (.cells #[.string ky, .string nm, .slice ta tn tc, .int .i64 is, .slice sa n sc] 27)).alloc (.cells #[.string ⟨#[]⟩, .string ⟨#[]⟩, .slice none 0 0, .int .i64 0, .slice none 0 0] 27) := ⟨_, rfl⟩
 have hB0 : Below w.heap.size w W0 := by rw [hW0]; exact bel2 w _ _
 have BX : BoxL W0 w.heap.size [.string ky, .string nm, .slice ta tn tc, .int .i64 is, .slice sa n sc] := by rw [hW0]; exact (boxL_new w [.string ky, .string nm, .slice ta tn tc, .int .i64 is, .slice sa n sc] _ rfl).alloc _
 have BY : BoxL W0 (w.heap.size + 1) [.string ⟨#[]⟩, .string ⟨#[]⟩, .slice none 0 0, .int .i64 0, .slice none 0 0] := by rw [hW0]; exact boxL_new _ [.string ⟨#[]⟩, .string ⟨#[]⟩, .slice none 0 0, .int .i64 0, .slice none 0 0] _ (by simp)
 have cH := refHas_any ky nm ta tn tc is sa n sc ss 4 W0 (hZ.below hB0) hn
 have cW := fun is' sa' sc' (ss' : List StP) p (x : StP) W (hz : IsZ W sa' sc' ss') (hl : n = ss'.length) (hx : x.r.size ≤ maxLen) => refWith_any ky nm ta tn tc is' sa' n sc' ss' p x.i x.t x.d x.k x.r W hz hl (by omega) hx
 have HN : Hid (n = ss.length) := hn
 have HNT : Hid (n = tn) := hnt
 have HTN : Hid (tn = tv.length) := htn
 have HT : Hid (IsT w ta tc tv) := hT
 have HZ : Hid (IsZ w sa sc ss) := hZ
 have HIN : Hid (∀ (i : Nat) t, tv[i]? = some t → ∀ x ∈ t.ns, 0 ≤ x ∧ x < n) := hin
 have hnm : n ≤ 9223372036854775807 := by omega
 have f0 := BX.1 0 _ rfl; have f1 := BX.1 1 _ rfl; have f2 := BX.1 2 _ rfl; have f3 := BX.1 3 _ rfl; have f4 := BX.1 4 _ rfl
 rw [hW0] at f0 f1 f2 f3 f4
 cases h4 : hasK ss 4 with
 | true =>
  have hm : mendS (plainT tv) ss is = (ss.map cancelT, 2) := if_pos h4
  rw [hm]
  rw [h4] at cH
  clear hT htn hZ hn hnt hin h4 hm
  go_enter Try.func36, Try.ntmps36
  go_wp2_with (go_at_call 27; rw [← hW0]; refine cH.mono ?_; rintro e w1 ⟨rfl, hb⟩; have BX1 := BX.below hb; have BY1 := BY.below hb; have hB := Below.tr hB0 hb; clear f0 f1 f2 f3 f4; have x4 := BX1.1 4 _ rfl)
  clear x4
  go_loopw [15] (fun v wr => ∃ (j : Nat) (a : Option Addr) (c : Nat), j ≤ n ∧ v = .int .i64 j ∧ BoxL wr w.heap.size [.string ky, .string nm, .slice ta tn tc, .int .i64 is, .slice a n c] ∧ BoxL wr (w.heap.size + 1) [.string ⟨#[]⟩, .string ⟨#[]⟩, .slice none 0 0, .int .i64 0, .slice none 0 0] ∧ IsZ wr a c (cancelTo ss j) ∧ Hid (a = sa ∨ From (w.heap.size + 2) a) ∧ Below w.heap.size w wr) (fun v _ => n - (intOf v).toNat)
  case atStart => exact ⟨0, sa, sc, Nat.zero_le _, rfl, BX1, BY1, by rw [cancelTo_zero]; exact (HZ.out.below hB0).below hb, .inl rfl, hB⟩
  case round =>
   clear BX1 BY1 hB
   obtain ⟨j, a, c, hj, rfl, BX2, BY2, hZc, HA, hB⟩ := hrel
   by_cases hlt : j < n
   ·
    have hlt' : (j : Int) < n := by omega
    obtain ⟨s, hs⟩ : ∃ s, ss[j]? = some s := ⟨_, List.getElem?_eq_getElem (by rw [← HN.out]; exact hlt)⟩
    obtain ⟨b, ob, rfl, -⟩ := HZ.out.some (by have := HN.out; omega)
    obtain ⟨z0, z1, z2, z3, z4⟩ := (HZ.out.below hB).at hs
    obtain ⟨bx, hbx⟩ : ∃ bx, bx = wr.heap.size := ⟨_, rfl⟩
    obtain ⟨Y, hY⟩ : ∃ Y, Y = wr.alloc (.cells #[.int .i64 s.i, .int .i64 s.t, .int .i64 s.d, .int .i64 s.k, .string s.r] 52) := ⟨_, rfl⟩
    have hBY0 : Below wr.heap.size wr Y := by rw [hY]; exact (Below.refl _ _).alloc (Nat.le_refl _) _
    have bS : BoxL Y bx [.int .i64 s.i, .int .i64 s.t, .int .i64 s.d, .int .i64 s.k, .string s.r] := by rw [hY]; exact boxL_new wr _ _ hbx
    have BXY := BX2.below hBY0
    have BYY := BY2.below hBY0
    have hzY : w.heap.size < Y.heap.size := BXY.lt (by simp)
    have hbz : ¬ bx = w.heap.size := by have := BX2.lt (by simp); omega
    have hBw := Below.tr hB hBY0
    obtain ⟨zc, hzc⟩ : ∃ zc, zc = cancelTo ss j := ⟨_, rfl⟩
    rw [← hzc] at hZc
    have HZc : Hid (IsZ Y a c zc) := hZc.below hBY0
    have HNc : Hid (n = zc.length) := by show _ = _; rw [hzc, cancelTo_length]; exact HN.out
    obtain ⟨x, hx⟩ : ∃ x, x = cancelT ⟨s.i, s.t, s.d, s.k, s.r⟩ := ⟨_, rfl⟩
    have cF : ∀ W, Calls Try.prog 55 #[.agg #[.int .i64 s.i, .int .i64 s.t, .int .i64 s.d, .int .i64 s.k, .string s.r]] W fun e w' => e = .returned (vT x) ∧ Below W.heap.size W w' := fun W => by rw [hx]; exact refCancelT_any s.i s.t s.d s.k s.r W
    have hxt : x.r.size ≤ maxLen := by rw [hx]; exact cancel_text (HZ.out.text hs)
    obtain ⟨zn, hzn⟩ : ∃ zn, zn = cancelTo ss (j + 1) := ⟨_, rfl⟩
    have HZn : Hid (zn = setI zc j ⟨x.i, x.t, x.d, x.k, x.r⟩) := by show _ = _; rw [hzn, hzc, setI_nat, hx, cancelTo_succ hs]
    have HZN : Hid (zn = cancelTo ss (j + 1)) := hzn
    have f0 := BXY.1 0 _ rfl; have f1 := BXY.1 1 _ rfl; have f2 := BXY.1 2 _ rfl; have f3 := BXY.1 3 _ rfl; have f4 := BXY.1 4 _ rfl
    have b0 := bS.1 0 _ rfl; have b1 := bS.1 1 _ rfl; have b2 := bS.1 2 _ rfl; have b3 := bS.1 3 _ rfl; have b4 := bS.1 4 _ rfl
    clear hs hZc hzc hzn BX2 BY2 hB
    go_wp2
    rw [← hbx, ← hY]
    clear hbx z0 z1 z2 z3 z4
    refine region_chain (by kernel_rfl) [5] (withV ky nm ta tn tc is a n c j s x Y.heap.size zn) (withS Y w.heap.size ky nm ta tn tc is n zn) (Turns (fun k => k = w.heap.size)) (by kernel_rfl) (by kernel_rfl) (withV_mono hzY) (Below.refl _ _).drew ?step 6 rfl ?done
    case step =>
     clear hY
     intro i oo ho q a9 X hq hmay hS hdf hsz hdep hsame
     simp only [List.length_cons, List.length_nil] at hq
     match i, ho with
     | 0, ho =>
      cases ho
      have h1 := hsame 1 rfl
      have hq0 : q = 0 := by
       clear hS hdep hsame
       rcases (by omega : q = 0 ∨ q = 1) with rfl | rfl <;> first | rfl | exact absurd hmay (Bool.eq_false_iff.1 (by kernel_rfl))
      subst hq0
      have g0 := cell_below hS f0
      have g1 := cell_below hS f1
      have g2 := cell_below hS f2
      have g3 := cell_below hS f3
      have g4 := cell_below hS f4
      exact op_value rfl (wanted_free rfl) (by clear hdep hsame hsz hdf; go_simp) rfl (by rw [if_neg (by decide)]; exact hS) (Turns.refl _ _)
     | 1, ho =>
      cases ho
      have h3 := hsame 3 rfl
      exact op_value rfl (wanted_free rfl) (by clear hdep hsame hsz hdf; go_simp) rfl (by rw [if_neg (by decide)]; exact hS) (Turns.refl _ _)
     | 2, ho =>
      cases ho
      have h4 := hsame 4 rfl
      rcases (by omega : q = 0 ∨ q = 1) with rfl | rfl
      ·
       have g0 := cell_below hS b0
       have g1 := cell_below hS b1
       have g2 := cell_below hS b2
       have g3 := cell_below hS b3
       have g4 := cell_below hS b4
       exact op_value rfl (wanted_free rfl) (by clear hdep hsame hsz hdf; go_simp) rfl (by rw [if_neg (by decide)]; exact hS) (Turns.refl _ _)
      ·
       have g0 := hS.2.cell (p := ⟨bx, 0, none⟩) hbz b0
       have g1 := hS.2.cell (p := ⟨bx, 1, none⟩) hbz b1
       have g2 := hS.2.cell (p := ⟨bx, 2, none⟩) hbz b2
       have g3 := hS.2.cell (p := ⟨bx, 3, none⟩) hbz b3
       have g4 := hS.2.cell (p := ⟨bx, 4, none⟩) hbz b4
       exact op_value rfl (wanted_free rfl) (by clear hdep hsame hsz hdf; go_simp) rfl (by rw [if_neg (by decide)]; exact hS) (Turns.refl _ _)
     | 3, ho =>
      cases ho
      obtain ⟨_, h22, rfl⟩ := hdep 2 _ 22 rfl rfl rfl
      have hq0 : q = 0 := by
       clear hS hdep hsame
       rcases (by omega : q = 0 ∨ q = 1) with rfl | rfl <;> first | rfl | exact absurd hmay (Bool.eq_false_iff.1 (by kernel_rfl))
      subst hq0
      exact op_call rfl (wanted_free rfl) (by clear hdep hsame hsz hdf; go_simp) ((cF X).mono fun e X' hx => ⟨_, hx.1, rfl, by rw [if_neg (by decide)]; exact Below.tr hS hx.2, Turns.of_below hx.2⟩)
     | 4, ho =>
      cases ho
      obtain ⟨_, h20, rfl⟩ := hdep 0 _ 20 rfl rfl rfl
      obtain ⟨_, h21, rfl⟩ := hdep 1 _ 21 rfl rfl rfl
      obtain ⟨_, h23, rfl⟩ := hdep 3 _ 23 rfl rfl rfl
      have hq0 : q = 0 := by
       clear hS hdep hsame
       rcases (by omega : q = 0 ∨ q = 1) with rfl | rfl <;> first | rfl | exact absurd hmay (Bool.eq_false_iff.1 (by kernel_rfl))
      subst hq0
      refine op_call rfl (wanted_free rfl) (by clear hdep hsame hsz hdf; go_simp) ((cW is a c zc j x X (HZc.out.below hS) HNc.out hxt).mono ?_)
      rintro e X' ⟨a1, c1, rfl, hz1, hf1, hb1⟩
      exact ⟨_, rfl, ⟨a1, c1, rfl, by rw [HZn.out]; exact hz1, hf1.mono hS.size⟩, by rw [if_neg (by decide)]; exact Below.tr hS hb1, Turns.of_below hb1⟩
     | 5, ho =>
      cases ho
      have h1 := hsame 1 rfl
      obtain ⟨_, h24, a1, c1, rfl, hz1, hf1⟩ := hdep 4 _ 24 rfl rfl rfl
      have hq0 : q = 0 := by
       clear hS hdep hsame
       rcases (by omega : q = 0 ∨ q = 1) with rfl | rfl <;> first | rfl | exact absurd hmay (Bool.eq_false_iff.1 (by kernel_rfl))
      subst hq0
      have GX := BXY.below hS
      have g0 := GX.1 0 _ rfl
      have g1 := GX.1 1 _ rfl
      have g2 := GX.1 2 _ rfl
      have g3 := GX.1 3 _ rfl
      have g4 := GX.1 4 _ rfl
      have k0 := GX.2 0 (by simp)
      have k1 := GX.2 1 (by simp)
      have k2 := GX.2 2 (by simp)
      have k3 := GX.2 3 (by simp)
      have k4 := GX.2 4 (by simp)
      exact op_skip (w' := (((((X.setCell ⟨w.heap.size, 0, none⟩ (.string ky)).setCell ⟨w.heap.size, 1, none⟩ (.string nm)).setCell ⟨w.heap.size, 2, none⟩ (.slice ta tn tc)).setCell ⟨w.heap.size, 3, none⟩ (.int .i64 is)).setCell ⟨w.heap.size, 4, none⟩ (.slice a1 n c1))) rfl (wanted_free rfl) rfl (by clear hdep hsame hsz hdf hz1 hf1; go_simp) trivial (by rw [if_pos (by decide)]; exact withS_put hzY BXY hS hz1 hf1) (turns_set5 _ _ _ _ _ _ _)
     | k + 6, ho => simp at ho
    case done =>
     intro val V hS hV
     obtain ⟨⟨a1, c1, BV, hzV, hfV⟩, tV⟩ := hS
     have BYV := boxL_turns BYY tV (by omega)
     have hBV := Below.turns hBw tV (fun k hk => by omega)
     have HZV : Hid (IsZ V a1 c1 (cancelTo ss (j + 1))) := by rw [← HZN.out]; exact hzV
     have HAV : Hid (a1 = some ⟨b, ob, none⟩ ∨ From (w.heap.size + 2) a1) := .inr fun y hy => by have := hfV y hy; have := BYY.lt (by simp); omega
     clear hV hzV hfV cW f0 f1 f2 f3 f4 b0 b1 b2 b3 b4 hY BXY BYY bS
     simp [filledN]
     go_wp2
     go_roundw
     case rel => exact ⟨j + 1, a1, c1, by omega, by go_num, BV, BYV, HZV.out, HAV.out, hBV⟩
     case measure => simp [intOf]; omega
   ·
    obtain rfl : n = j := by omega
    have hx : ¬ (n : Int) < n := by omega
    obtain ⟨Z1, hZ1⟩ : ∃ Z1, Z1 = wr.setCell ⟨w.heap.size, 3, none⟩ (.int .i64 2) := ⟨_, rfl⟩
    have BX1' : BoxL Z1 w.heap.size [.string ky, .string nm, .slice ta tn tc, .int .i64 2, .slice a n c] := by rw [hZ1]; exact BX2.set 3 _
    have BY1' : BoxL Z1 (w.heap.size + 1) [.string ⟨#[]⟩, .string ⟨#[]⟩, .slice none 0 0, .int .i64 0, .slice none 0 0] := by rw [hZ1]; exact BY2.off (by omega)
    obtain ⟨Z, hZ9⟩ : ∃ Z, Z = (((((Z1.setCell ⟨w.heap.size + 1, 0, none⟩ (.string ky)).setCell ⟨w.heap.size + 1, 1, none⟩ (.string nm)).setCell ⟨w.heap.size + 1, 2, none⟩ (.slice ta tn tc)).setCell ⟨w.heap.size + 1, 3, none⟩ (.int .i64 2)).setCell ⟨w.heap.size + 1, 4, none⟩ (.slice a n c)) := ⟨_, rfl⟩
    have t1 : Turns (fun k => k = w.heap.size) wr Z1 := by rw [hZ1]; exact (Turns.refl (fun k => k = w.heap.size) wr).setCell (p := ⟨w.heap.size, 3, none⟩) rfl _
    have t2 : Turns (fun k => k = w.heap.size + 1) Z1 Z := by rw [hZ9]; exact turns_set5 _ _ _ _ _ _ _
    have BZ : BoxL Z (w.heap.size + 1) [.string ky, .string nm, .slice ta tn tc, .int .i64 2, .slice a n c] := by rw [hZ9]; exact boxL_set5 BY1' _ _ _ _ _
    have hBZ : Below w.heap.size w Z := Below.turns (Below.turns hB t1 (fun k hk => by omega)) t2 (fun k hk => by omega)
    have HF : Hid (IsZ Z a c (ss.map cancelT) ∧ Below w.heap.size w Z) := by
     have h1 : IsZ wr a c (ss.map cancelT) := by rw [← cancelTo_all, ← HN.out]; exact hZc
     refine ⟨?_, hBZ⟩
     refine h1.kept ((t1.mono (Q := fun k => k = w.heap.size ∨ k = w.heap.size + 1) fun k hk => .inl hk).trans (t2.mono fun k hk => .inr hk)) fun h0 y hy => ?_
     have h2 : y.block ≠ w.heap.size ∧ y.block ≠ w.heap.size + 1 := by
      rcases HA.out with e | e
      ·
       have := HZ.out.lies (by rw [← List.length_map (f := cancelT)]; exact h0) y (by rw [← e]; exact hy); omega
      ·
       have := e y hy; omega
     rintro (e | e)
     ·
      exact h2.1 e
     ·
      exact h2.2 e
    have x0 := BX2.1 0 _ rfl; have x1 := BX2.1 1 _ rfl; have x2 := BX2.1 2 _ rfl; have x3 := BX2.1 3 _ rfl; have x4 := BX2.1 4 _ rfl
    have e3 := BX2.2 3 (by simp)
    have y0 := BX1'.1 0 _ rfl; have y1 := BX1'.1 1 _ rfl; have y2 := BX1'.1 2 _ rfl; have y3 := BX1'.1 3 _ rfl; have y4 := BX1'.1 4 _ rfl
    have v0 := BY1'.1 0 _ rfl; have v1 := BY1'.1 1 _ rfl; have v2 := BY1'.1 2 _ rfl; have v3 := BY1'.1 3 _ rfl; have v4 := BY1'.1 4 _ rfl
    have d0 := BY1'.2 0 (by simp); have d1 := BY1'.2 1 (by simp); have d2 := BY1'.2 2 (by simp); have d3 := BY1'.2 3 (by simp); have d4 := BY1'.2 4 (by simp)
    have r0 := BZ.1 0 _ rfl; have r1 := BZ.1 1 _ rfl; have r2 := BZ.1 2 _ rfl; have r3 := BZ.1 3 _ rfl; have r4 := BZ.1 4 _ rfl
    rw [hZ1] at y0 y1 y2 y3 y4 v0 v1 v2 v3 v4 d0 d1 d2 d3 d4
    clear BX2 BY2 BX1' BY1' BZ t1 t2 hBZ hZc hB
    go_wp2
    rw [← hZ1, ← hZ9]
    refine bodyPost_ret (v := .agg #[.string ky, .string nm, .slice ta tn tc, .int .i64 2, .slice a n c]) (by simp [results, Try.results36, go_sem, r0, r1, r2, r3, r4]) rfl ?_
    have hfin : MadeC w ky nm ta tn tc 2 sa n (ss.map cancelT) (.agg #[.string ky, .string nm, .slice ta tn tc, .int .i64 2, .slice a n c]) Z := ⟨a, c, rfl, HF.out.1, by rw [List.length_map]; exact HN.out, HA.out.imp id (fun h => h.mono (by omega)), HF.out.2⟩
    first | exact ⟨_, rfl, hfin⟩ | (simpa using hfin)
 | false =>
  obtain ⟨MS, hMS⟩ : ∃ MS, MS = mendJ (plainT tv) ss n := ⟨_, rfl⟩
  obtain ⟨MI, hMI⟩ : ∃ MI : Int, MI = if allS MS = true then 1 else is := ⟨_, rfl⟩
  have hm : mendS (plainT tv) ss is = (MS, MI) := by
   unfold mendS
   rw [if_neg (by rw [h4]; decide), ← mendJ_all, ← hn, ← hMS, hMI]
   rfl
  rw [hm]
  rw [h4] at cH
  have HMS : Hid (MS = mendJ (plainT tv) ss n) := hMS
  have HMI : Hid (MI = if allS MS = true then 1 else is) := hMI
  have HML : Hid (n = MS.length) := by show _ = _; rw [hMS, mendJ_length]; exact hn
  clear hT htn hZ hn hnt hin h4 hm hMS hMI
  go_enter Try.func36, Try.ntmps36
  go_wp2_with (go_at_call 27; rw [← hW0]; refine cH.mono ?_; rintro e w1 ⟨rfl, hb⟩; have BX1 := BX.below hb; have BY1 := BY.below hb; have hB := Below.tr hB0 hb; clear f0 f1 f2 f3 f4; have x4 := BX1.1 4 _ rfl)
  clear x4
  go_loopw [31] (fun v wr => ∃ (j : Nat) (a : Option Addr) (c : Nat), j ≤ n ∧ v = .int .i64 j ∧ BoxL wr w.heap.size [.string ky, .string nm, .slice ta tn tc, .int .i64 is, .slice a n c] ∧ BoxL wr (w.heap.size + 1) [.string ⟨#[]⟩, .string ⟨#[]⟩, .slice none 0 0, .int .i64 0, .slice none 0 0] ∧ IsZ wr a c (mendJ (plainT tv) ss j) ∧ Hid (a = sa ∨ From (w.heap.size + 2) a) ∧ Below w.heap.size w wr) (fun v _ => n - (intOf v).toNat)
  case atStart => exact ⟨0, sa, sc, Nat.zero_le _, rfl, BX1, BY1, by rw [mendJ_zero]; exact (HZ.out.below hB0).below hb, .inl rfl, hB⟩
  case round =>
   clear BX1 BY1 hB
   obtain ⟨j, a, c, hj, rfl, BX2, BY2, hZc, HA, hB⟩ := hrel
   by_cases hlt : j < n
   ·
    have hlt' : (j : Int) < n := by omega
    obtain ⟨s, hs⟩ : ∃ s, ss[j]? = some s := ⟨_, List.getElem?_eq_getElem (by rw [← HN.out]; exact hlt)⟩
    obtain ⟨tk, htk⟩ : ∃ tk, tv[j]? = some tk := ⟨_, List.getElem?_eq_getElem (by have := HNT.out; have := HTN.out; omega)⟩
    obtain ⟨b, ob, rfl, -⟩ := HZ.out.some (by have := HN.out; omega)
    obtain ⟨z0, z1, z2, z3, z4⟩ := (HZ.out.below hB).at hs
    obtain ⟨bx, hbx⟩ : ∃ bx, bx = wr.heap.size := ⟨_, rfl⟩
    obtain ⟨Y0, hY⟩ : ∃ Y0, Y0 = wr.alloc (.cells #[.int .i64 s.i, .int .i64 s.t, .int .i64 s.d, .int .i64 s.k, .string s.r] 52) := ⟨_, rfl⟩
    have hBY0 : Below wr.heap.size wr Y0 := by rw [hY]; exact (Below.refl _ _).alloc (Nat.le_refl _) _
    have bS0 : BoxL Y0 bx [.int .i64 s.i, .int .i64 s.t, .int .i64 s.d, .int .i64 s.k, .string s.r] := by rw [hY]; exact boxL_new wr _ _ hbx
    have BX0 := BX2.below hBY0
    have BY0 := BY2.below hBY0
    have hzY0 : w.heap.size < Y0.heap.size := BX0.lt (by simp)
    have hbz : ¬ bx = w.heap.size := by have := BX2.lt (by simp); omega
    have hBw0 := Below.tr hB hBY0
    obtain ⟨zc, hzc⟩ : ∃ zc, zc = mendJ (plainT tv) ss j := ⟨_, rfl⟩
    rw [← hzc] at hZc
    have HNc : Hid (n = zc.length) := by show _ = _; rw [hzc, mendJ_length]; exact HN.out
    have e1 : readyI (plainT tv) zc j = readyI (plainT tv) ss j := by rw [hzc]; exact ready_same (mendJ_done _ ss j) j
    have cI := refIsReady_any ky nm ta tn tc is a n c zc tv j tk Y0 (hZc.below hBY0) HNc.out (HT.out.below hBw0) HTN.out htk (HIN.out j tk htk)
    rw [e1] at cI
    obtain ⟨F, hF⟩ : ∃ F, F = readyI (plainT tv) ss j := ⟨_, rfl⟩
    rw [← hF] at cI
    have HF : Hid (F = readyI (plainT tv) ss j) := hF
    have HZ0 : Hid (IsZ Y0 a c zc) := hZc.below hBY0
    have hsn : Hid (mendJ (plainT tv) ss (j + 1) = if readyI (plainT tv) ss j = true then zc.set j (readyT s) else zc) := by show _ = _; rw [mendJ_succ hs, ← hzc]
    obtain ⟨x, hx⟩ : ∃ x, x = readyT ⟨s.i, s.t, s.d, s.k, s.r⟩ := ⟨_, rfl⟩
    have cF : ∀ W, Calls Try.prog 78 #[.agg #[.int .i64 s.i, .int .i64 s.t, .int .i64 s.d, .int .i64 s.k, .string s.r]] W fun e w' => e = .returned (vT x) ∧ Below W.heap.size W w' := fun W => by rw [hx]; exact refReadyT_any s.i s.t s.d s.k s.r W
    have hxt : x.r.size ≤ maxLen := by rw [hx]; exact ready_text (HZ.out.text hs)
    have hxs : Hid (readyT s = x) := hx.symm
    have f0 := BX0.1 0 _ rfl; have f1 := BX0.1 1 _ rfl; have f2 := BX0.1 2 _ rfl; have f3 := BX0.1 3 _ rfl; have f4 := BX0.1 4 _ rfl
    cases F with
    | false =>
     have HE : Hid (mendJ (plainT tv) ss (j + 1) = zc) := by show _ = _; rw [hsn.out, ← HF.out]; rfl
     clear hs htk hZc hzc e1 hF hx BX2 BY2 hB cF
     rw [hY] at f0 f1 f2 f3 f4
     go_wp2_with (go_at_call 41; rw [← hbx, ← hY]; refine cI.mono ?_; rintro e w3 ⟨rfl, hb3⟩)
     go_roundw
     case rel => exact ⟨j + 1, a, c, by omega, by go_num, BX0.below hb3, BY0.below hb3, by rw [HE.out]; exact HZ0.out.below hb3, HA.out, Below.tr hBw0 hb3⟩
     case measure => simp [intOf]; omega
    | true =>
     obtain ⟨zn, hzn⟩ : ∃ zn, zn = mendJ (plainT tv) ss (j + 1) := ⟨_, rfl⟩
     have HZn : Hid (zn = setI zc j ⟨x.i, x.t, x.d, x.k, x.r⟩) := by show _ = _; rw [hzn, hsn.out, ← HF.out, if_pos rfl, setI_nat, hxs.out]
     have HZN : Hid (zn = mendJ (plainT tv) ss (j + 1)) := hzn
     clear hs htk hZc hzc e1 hF hx BX2 BY2 hB hzn
     rw [hY] at f0 f1 f2 f3 f4
     go_wp2_with (go_at_call 41; rw [← hbx, ← hY]; refine cI.mono ?_; rintro e Y ⟨rfl, hb3⟩; clear f0 f1 f2 f3 f4; have BXY := BX0.below hb3; have BYY := BY0.below hb3; have bS := bS0.below hb3; have hBw := Below.tr hBw0 hb3; have HZc : Hid (IsZ Y a c zc) := HZ0.out.below hb3; have hzY : w.heap.size < Y.heap.size := BXY.lt (by simp); have f0 := BXY.1 0 _ rfl; have f1 := BXY.1 1 _ rfl; have f2 := BXY.1 2 _ rfl; have f3 := BXY.1 3 _ rfl; have f4 := BXY.1 4 _ rfl; have b0 := bS.1 0 _ rfl; have b1 := bS.1 1 _ rfl; have b2 := bS.1 2 _ rfl; have b3 := bS.1 3 _ rfl; have b4 := bS.1 4 _ rfl)
     try rw [← hbx]
     clear hbx z0 z1 z2 z3 z4
     refine region_chain (by kernel_rfl) [5] (withV ky nm ta tn tc is a n c j s x Y.heap.size zn) (withS Y w.heap.size ky nm ta tn tc is n zn) (Turns (fun k => k = w.heap.size)) (by kernel_rfl) (by kernel_rfl) (withV_mono hzY) (Below.refl _ _).drew ?step 6 rfl ?done
     case step =>
      clear hY
      intro i oo ho q a9 X hq hmay hS hdf hsz hdep hsame
      simp only [List.length_cons, List.length_nil] at hq
      match i, ho with
      | 0, ho =>
       cases ho
       have h1 := hsame 1 rfl
       have hq0 : q = 0 := by
        clear hS hdep hsame
        rcases (by omega : q = 0 ∨ q = 1) with rfl | rfl <;> first | rfl | exact absurd hmay (Bool.eq_false_iff.1 (by kernel_rfl))
       subst hq0
       have g0 := cell_below hS f0
       have g1 := cell_below hS f1
       have g2 := cell_below hS f2
       have g3 := cell_below hS f3
       have g4 := cell_below hS f4
       exact op_value rfl (wanted_free rfl) (by clear hdep hsame hsz hdf; go_simp) rfl (by rw [if_neg (by decide)]; exact hS) (Turns.refl _ _)
      | 1, ho =>
       cases ho
       have h5 := hsame 5 rfl
       exact op_value rfl (wanted_free rfl) (by clear hdep hsame hsz hdf; go_simp) rfl (by rw [if_neg (by decide)]; exact hS) (Turns.refl _ _)
      | 2, ho =>
       cases ho
       have h6 := hsame 6 rfl
       rcases (by omega : q = 0 ∨ q = 1) with rfl | rfl
       ·
        have g0 := cell_below hS b0
        have g1 := cell_below hS b1
        have g2 := cell_below hS b2
        have g3 := cell_below hS b3
        have g4 := cell_below hS b4
        exact op_value rfl (wanted_free rfl) (by clear hdep hsame hsz hdf; go_simp) rfl (by rw [if_neg (by decide)]; exact hS) (Turns.refl _ _)
       ·
        have g0 := hS.2.cell (p := ⟨bx, 0, none⟩) hbz b0
        have g1 := hS.2.cell (p := ⟨bx, 1, none⟩) hbz b1
        have g2 := hS.2.cell (p := ⟨bx, 2, none⟩) hbz b2
        have g3 := hS.2.cell (p := ⟨bx, 3, none⟩) hbz b3
        have g4 := hS.2.cell (p := ⟨bx, 4, none⟩) hbz b4
        exact op_value rfl (wanted_free rfl) (by clear hdep hsame hsz hdf; go_simp) rfl (by rw [if_neg (by decide)]; exact hS) (Turns.refl _ _)
      | 3, ho =>
       cases ho
       obtain ⟨_, h41, rfl⟩ := hdep 2 _ 41 rfl rfl rfl
       have hq0 : q = 0 := by
        clear hS hdep hsame
        rcases (by omega : q = 0 ∨ q = 1) with rfl | rfl <;> first | rfl | exact absurd hmay (Bool.eq_false_iff.1 (by kernel_rfl))
       subst hq0
       exact op_call rfl (wanted_free rfl) (by clear hdep hsame hsz hdf; go_simp) ((cF X).mono fun e X' hx => ⟨_, hx.1, rfl, by rw [if_neg (by decide)]; exact Below.tr hS hx.2, Turns.of_below hx.2⟩)
      | 4, ho =>
       cases ho
       obtain ⟨_, h39, rfl⟩ := hdep 0 _ 39 rfl rfl rfl
       obtain ⟨_, h40, rfl⟩ := hdep 1 _ 40 rfl rfl rfl
       obtain ⟨_, h42, rfl⟩ := hdep 3 _ 42 rfl rfl rfl
       have hq0 : q = 0 := by
        clear hS hdep hsame
        rcases (by omega : q = 0 ∨ q = 1) with rfl | rfl <;> first | rfl | exact absurd hmay (Bool.eq_false_iff.1 (by kernel_rfl))
       subst hq0
       refine op_call rfl (wanted_free rfl) (by clear hdep hsame hsz hdf; go_simp) ((cW is a c zc j x X (HZc.out.below hS) HNc.out hxt).mono ?_)
       rintro e X' ⟨a1, c1, rfl, hz1, hf1, hb1⟩
       exact ⟨_, rfl, ⟨a1, c1, rfl, by rw [HZn.out]; exact hz1, hf1.mono hS.size⟩, by rw [if_neg (by decide)]; exact Below.tr hS hb1, Turns.of_below hb1⟩
      | 5, ho =>
       cases ho
       have h1 := hsame 1 rfl
       obtain ⟨_, h43, a1, c1, rfl, hz1, hf1⟩ := hdep 4 _ 43 rfl rfl rfl
       have hq0 : q = 0 := by
        clear hS hdep hsame
        rcases (by omega : q = 0 ∨ q = 1) with rfl | rfl <;> first | rfl | exact absurd hmay (Bool.eq_false_iff.1 (by kernel_rfl))
       subst hq0
       have GX := BXY.below hS
       have g0 := GX.1 0 _ rfl
       have g1 := GX.1 1 _ rfl
       have g2 := GX.1 2 _ rfl
       have g3 := GX.1 3 _ rfl
       have g4 := GX.1 4 _ rfl
       have k0 := GX.2 0 (by simp)
       have k1 := GX.2 1 (by simp)
       have k2 := GX.2 2 (by simp)
       have k3 := GX.2 3 (by simp)
       have k4 := GX.2 4 (by simp)
       exact op_skip (w' := (((((X.setCell ⟨w.heap.size, 0, none⟩ (.string ky)).setCell ⟨w.heap.size, 1, none⟩ (.string nm)).setCell ⟨w.heap.size, 2, none⟩ (.slice ta tn tc)).setCell ⟨w.heap.size, 3, none⟩ (.int .i64 is)).setCell ⟨w.heap.size, 4, none⟩ (.slice a1 n c1))) rfl (wanted_free rfl) rfl (by clear hdep hsame hsz hdf hz1 hf1; go_simp) trivial (by rw [if_pos (by decide)]; exact withS_put hzY BXY hS hz1 hf1) (turns_set5 _ _ _ _ _ _ _)
      | k + 6, ho => simp at ho
     case done =>
      intro val V hS hV
      obtain ⟨⟨a1, c1, BV, hzV, hfV⟩, tV⟩ := hS
      have BYV := boxL_turns BYY tV (by omega)
      have hBV := Below.turns hBw tV (fun k hk => by omega)
      have HZV : Hid (IsZ V a1 c1 (mendJ (plainT tv) ss (j + 1))) := by rw [← HZN.out]; exact hzV
      have HAV : Hid (a1 = some ⟨b, ob, none⟩ ∨ From (w.heap.size + 2) a1) := .inr fun y hy => by have := hfV y hy; have := BYY.lt (by simp); omega
      clear hV hzV hfV cW f0 f1 f2 f3 f4 b0 b1 b2 b3 b4 hY BXY BYY bS
      simp [filledN]
      go_wp2
      go_roundw
      case rel => exact ⟨j + 1, a1, c1, by omega, by go_num, BV, BYV, HZV.out, HAV.out, hBV⟩
      case measure => simp [intOf]; omega
   ·
    obtain rfl : n = j := by omega
    have hx : ¬ (n : Int) < n := by omega
    have x4 := BX2.1 4 _ rfl
    rw [← HMS.out] at hZc
    go_wp2
    clear x4
    obtain ⟨wo, hwo⟩ : ∃ wo, wo = wr := ⟨_, rfl⟩
    subst hwo
    go_loopw [7, 48] (fun q v wr => ∃ j : Nat, j ≤ n ∧ q = .bool (allS (MS.take j)) ∧ v = .int .i64 j ∧ Below wo.heap.size wo wr) (fun _ v _ => n - (intOf v).toNat)
    case atStart => exact ⟨0, Nat.zero_le _, rfl, rfl, Below.refl _ _⟩
    case round =>
     obtain ⟨j, hj, rfl, rfl, hB2⟩ := hrel
     by_cases hlt : j < n
     ·
      have hlt' : (j : Int) < n := by omega
      obtain ⟨s, hs⟩ : ∃ s, MS[j]? = some s := ⟨_, List.getElem?_eq_getElem (by rw [← HML.out]; exact hlt)⟩
      have hZ2 := hZc.below hB2
      obtain ⟨b, ob, rfl, -⟩ := hZ2.some (by have := HML.out; omega)
      obtain ⟨z0, z1, z2, z3, z4⟩ := hZ2.at hs
      obtain ⟨hc1, hc2⟩ : n ≤ c ∧ c ≤ 9223372036854775807 := ⟨by rw [HML.out]; exact hZ2.1, hZ2.2.1⟩
      have hall : Hid (allS (MS.take (j + 1)) = (allS (MS.take j) && decide (s.i = 3))) := by
       show _ = _
       unfold allS
       rw [List.take_add_one, hs, List.all_append]
       simp
      obtain ⟨A, hA⟩ : ∃ A, A = allS (MS.take j) := ⟨_, rfl⟩
      rw [← hA] at hall ⊢
      obtain ⟨Y, hY⟩ : ∃ Y, Y = wr.alloc (.cells #[.int .i64 s.i, .int .i64 s.t, .int .i64 s.d, .int .i64 s.k, .string s.r] 52) := ⟨_, rfl⟩
      have hBY : Below wo.heap.size wo Y := by rw [hY]; exact hB2.alloc hB2.size _
      obtain ⟨si, st, sd, sk, sr⟩ := s
      dsimp only at *
      have h3 : Hid ((si == 3) = decide (si = 3)) := by show _ = _; by_cases h : si = 3 <;> simp [h]
      clear hA hs hZ2
      cases A
      ·
       go_wp2
       rw [← hY]
       go_roundw
       case rel => exact ⟨j + 1, by omega, by rw [hall.out]; rfl, by go_num, hBY⟩
       case measure => simp [intOf]; omega
      ·
       go_wp2
       rw [← hY]
       go_roundw
       case rel => exact ⟨j + 1, by omega, by rw [hall.out, ← h3.out]; rfl, by go_num, hBY⟩
       case measure => simp [intOf]; omega
     ·
      obtain rfl : n = j := by omega
      rw [HML.out, List.take_length]
      have hB3 := Below.tr hB hB2
      have BX3 := BX2.below hB2
      have BY3 := BY2.below hB2
      have hZ3 := hZc.below hB2
      have HAA := HA
      have HB9 : Hid (IsZ wr a c MS) := hZ3
      obtain ⟨A, hA⟩ : ∃ A, A = allS MS := ⟨_, rfl⟩
      rw [← hA]
      have HMI2 : Hid (MI = if A = true then 1 else is) := by rw [hA]; exact HMI.out
      clear hA hZ3 hZc BX2 BY2
      rw [← HML.out]
      cases A
      ·
       have e : Hid (MI = is) := by show _ = _; rw [HMI2.out]; rfl
       obtain ⟨Z1, hZ1⟩ : ∃ Z1, Z1 = wr := ⟨_, rfl⟩
       have t1 : Turns (fun k => k = w.heap.size) wr Z1 := by rw [hZ1]; exact Turns.refl _ _
       have BX1' : BoxL Z1 w.heap.size [.string ky, .string nm, .slice ta tn tc, .int .i64 is, .slice a n c] := by rw [hZ1]; exact BX3
       have BY1' : BoxL Z1 (w.heap.size + 1) [.string ⟨#[]⟩, .string ⟨#[]⟩, .slice none 0 0, .int .i64 0, .slice none 0 0] := by rw [hZ1]; exact BY3
       obtain ⟨Z, hZ9⟩ : ∃ Z, Z = (((((Z1.setCell ⟨w.heap.size + 1, 0, none⟩ (.string ky)).setCell ⟨w.heap.size + 1, 1, none⟩ (.string nm)).setCell ⟨w.heap.size + 1, 2, none⟩ (.slice ta tn tc)).setCell ⟨w.heap.size + 1, 3, none⟩ (.int .i64 is)).setCell ⟨w.heap.size + 1, 4, none⟩ (.slice a n c)) := ⟨_, rfl⟩
       have t2 : Turns (fun k => k = w.heap.size + 1) Z1 Z := by rw [hZ9]; exact turns_set5 _ _ _ _ _ _ _
       have BZ : BoxL Z (w.heap.size + 1) [.string ky, .string nm, .slice ta tn tc, .int .i64 is, .slice a n c] := by rw [hZ9]; exact boxL_set5 BY1' _ _ _ _ _
       have hBZ : Below w.heap.size w Z := Below.turns (Below.turns hB3 t1 (fun k hk => by omega)) t2 (fun k hk => by omega)
       have HF : Hid (IsZ Z a c MS ∧ Below w.heap.size w Z) := by
        refine ⟨?_, hBZ⟩
        refine HB9.out.kept ((t1.mono (Q := fun k => k = w.heap.size ∨ k = w.heap.size + 1) fun k hk => .inl hk).trans (t2.mono fun k hk => .inr hk)) fun h0 y hy => ?_
        have h2 : y.block ≠ w.heap.size ∧ y.block ≠ w.heap.size + 1 := by
         rcases HAA.out with e | e
         ·
          have := HZ.out.lies (by rw [← HN.out, HML.out]; exact h0) y (by rw [← e]; exact hy); omega
         ·
          have := e y hy; omega
        rintro (e | e)
        ·
         exact h2.1 e
        ·
         exact h2.2 e
       have g3 := BX3.1 3 _ rfl
       have e3 := BX3.2 3 (by simp)
       have y0 := BX1'.1 0 _ rfl; have y1 := BX1'.1 1 _ rfl; have y2 := BX1'.1 2 _ rfl; have y3 := BX1'.1 3 _ rfl; have y4 := BX1'.1 4 _ rfl
       have v0 := BY1'.1 0 _ rfl; have v1 := BY1'.1 1 _ rfl; have v2 := BY1'.1 2 _ rfl; have v3 := BY1'.1 3 _ rfl; have v4 := BY1'.1 4 _ rfl
       have d0 := BY1'.2 0 (by simp); have d1 := BY1'.2 1 (by simp); have d2 := BY1'.2 2 (by simp); have d3 := BY1'.2 3 (by simp); have d4 := BY1'.2 4 (by simp)
       have r0 := BZ.1 0 _ rfl; have r1 := BZ.1 1 _ rfl; have r2 := BZ.1 2 _ rfl; have r3 := BZ.1 3 _ rfl; have r4 := BZ.1 4 _ rfl
       rw [hZ1] at y0 y1 y2 y3 y4 v0 v1 v2 v3 v4 d0 d1 d2 d3 d4
       clear BX3 BY3 BX1' BY1' BZ t1 t2 hBZ hB3 hB2 hB
       go_wp2
       first | rw [← hZ1, ← hZ9] | (rw [hZ1] at hZ9; rw [← hZ9])
       rw [e.out]
       refine bodyPost_ret (v := .agg #[.string ky, .string nm, .slice ta tn tc, .int .i64 is, .slice a n c]) (by simp [results, Try.results36, go_sem, r0, r1, r2, r3, r4]) rfl ?_
       have hfin : MadeC w ky nm ta tn tc is sa n MS (.agg #[.string ky, .string nm, .slice ta tn tc, .int .i64 is, .slice a n c]) Z := ⟨a, c, rfl, HF.out.1, HML.out, HAA.out.imp id (fun h => h.mono (by omega)), HF.out.2⟩
       first | exact ⟨_, rfl, hfin⟩ | (simpa using hfin)
      ·
       have e : Hid (MI = 1) := by show _ = _; rw [HMI2.out]; rfl
       obtain ⟨Z1, hZ1⟩ : ∃ Z1, Z1 = wr.setCell ⟨w.heap.size, 3, none⟩ (.int .i64 1) := ⟨_, rfl⟩
       have t1 : Turns (fun k => k = w.heap.size) wr Z1 := by rw [hZ1]; exact (Turns.refl (fun k => k = w.heap.size) wr).setCell (p := ⟨w.heap.size, 3, none⟩) rfl _
       have BX1' : BoxL Z1 w.heap.size [.string ky, .string nm, .slice ta tn tc, .int .i64 1, .slice a n c] := by rw [hZ1]; exact BX3.set 3 _
       have BY1' : BoxL Z1 (w.heap.size + 1) [.string ⟨#[]⟩, .string ⟨#[]⟩, .slice none 0 0, .int .i64 0, .slice none 0 0] := by rw [hZ1]; exact BY3.off (by omega)
       obtain ⟨Z, hZ9⟩ : ∃ Z, Z = (((((Z1.setCell ⟨w.heap.size + 1, 0, none⟩ (.string ky)).setCell ⟨w.heap.size + 1, 1, none⟩ (.string nm)).setCell ⟨w.heap.size + 1, 2, none⟩ (.slice ta tn tc)).setCell ⟨w.heap.size + 1, 3, none⟩ (.int .i64 1)).setCell ⟨w.heap.size + 1, 4, none⟩ (.slice a n c)) := ⟨_, rfl⟩
       have t2 : Turns (fun k => k = w.heap.size + 1) Z1 Z := by rw [hZ9]; exact turns_set5 _ _ _ _ _ _ _
       have BZ : BoxL Z (w.heap.size + 1) [.string ky, .string nm, .slice ta tn tc, .int .i64 1, .slice a n c] := by rw [hZ9]; exact boxL_set5 BY1' _ _ _ _ _
       have hBZ : Below w.heap.size w Z := Below.turns (Below.turns hB3 t1 (fun k hk => by omega)) t2 (fun k hk => by omega)
       have HF : Hid (IsZ Z a c MS ∧ Below w.heap.size w Z) := by
        refine ⟨?_, hBZ⟩
        refine HB9.out.kept ((t1.mono (Q := fun k => k = w.heap.size ∨ k = w.heap.size + 1) fun k hk => .inl hk).trans (t2.mono fun k hk => .inr hk)) fun h0 y hy => ?_
        have h2 : y.block ≠ w.heap.size ∧ y.block ≠ w.heap.size + 1 := by
         rcases HAA.out with e | e
         ·
          have := HZ.out.lies (by rw [← HN.out, HML.out]; exact h0) y (by rw [← e]; exact hy); omega
         ·
          have := e y hy; omega
        rintro (e | e)
        ·
         exact h2.1 e
        ·
         exact h2.2 e
       have g3 := BX3.1 3 _ rfl
       have e3 := BX3.2 3 (by simp)
       have y0 := BX1'.1 0 _ rfl; have y1 := BX1'.1 1 _ rfl; have y2 := BX1'.1 2 _ rfl; have y3 := BX1'.1 3 _ rfl; have y4 := BX1'.1 4 _ rfl
       have v0 := BY1'.1 0 _ rfl; have v1 := BY1'.1 1 _ rfl; have v2 := BY1'.1 2 _ rfl; have v3 := BY1'.1 3 _ rfl; have v4 := BY1'.1 4 _ rfl
       have d0 := BY1'.2 0 (by simp); have d1 := BY1'.2 1 (by simp); have d2 := BY1'.2 2 (by simp); have d3 := BY1'.2 3 (by simp); have d4 := BY1'.2 4 (by simp)
       have r0 := BZ.1 0 _ rfl; have r1 := BZ.1 1 _ rfl; have r2 := BZ.1 2 _ rfl; have r3 := BZ.1 3 _ rfl; have r4 := BZ.1 4 _ rfl
       rw [hZ1] at y0 y1 y2 y3 y4 v0 v1 v2 v3 v4 d0 d1 d2 d3 d4
       clear BX3 BY3 BX1' BY1' BZ t1 t2 hBZ hB3 hB2 hB
       go_wp2
       first | rw [← hZ1, ← hZ9] | (rw [hZ1] at hZ9; rw [← hZ9])
       rw [e.out]
       refine bodyPost_ret (v := .agg #[.string ky, .string nm, .slice ta tn tc, .int .i64 1, .slice a n c]) (by simp [results, Try.results36, go_sem, r0, r1, r2, r3, r4]) rfl ?_
       have hfin : MadeC w ky nm ta tn tc 1 sa n MS (.agg #[.string ky, .string nm, .slice ta tn tc, .int .i64 1, .slice a n c]) Z := ⟨a, c, rfl, HF.out.1, HML.out, HAA.out.imp id (fun h => h.mono (by omega)), HF.out.2⟩
       first | exact ⟨_, rfl, hfin⟩ | (simpa using hfin)
end Go.Proofs.Ytdpljpjbomhccaa

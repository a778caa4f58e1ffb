/-
  Texts laid together: GrowCopied Anylate GrowWrite GrowLay GrowRenew GrowReplace NodeFind GrowWay GrowEqual GrowSplice GrowConcatI GrowSpliceI NodeJoin GrowRow GrowUp GrowPair.
-/
import Derived.Test.YtaecfbfcjaailaaGreatBlD
import Derived.Test.YtaecfbfcjaailaaGreatBlA
import Derived.Test.YtaecfbfcjaailaaGreatBlB
import Derived.Test.YtaecfbfcjaailaaGreatBlC
import Derived.BigQuiet
import Derived.Deep.RegionHeld3
import Derived.Lib.AppendZeros
import Derived.Maps.RangeWalk
namespace Go.Proofs.YtaecfbfcjaailaaGreat.Anylast
open Go
theorem op_skip {P : Program} {ops : Array Oper} {Q : Exit → Act → World → Prop} {i : Nat} {o : Oper} {a : Act} {w w' : World} {V : Nat → Value → World → Prop} {S : World → Prop} {R : World → World → Prop} (hi : ops[i]? = some o) (hw : Region.wanted o (yielded ops a.tmps) = true) (hd : o.dst = none)
  (hr : (execOp a.eval o).run P w = .ok .skip w') (hV : V i undef w') (hS : S w') (hR : R w w') :
  wpOp P ops Q i (fun a' w' => ∃ v, a' = a.put o.dst v ∧ V i v w' ∧ S w' ∧ R w w') a w := by
 unfold wpOp
 simp only [hi, hw, if_true]
 refine .inl ?_
 unfold Oper.wp
 rw [hr]
 refine ⟨undef, ?_, hV, hS, hR⟩
 rw [hd]
end Go.Proofs.YtaecfbfcjaailaaGreat.Anylast
namespace Go.Proofs.YtaecfbfcjaailaaGreat
open Go.RowKit Plain
open Anylast
set_option linter.unusedVariables false
def CopP (B n : Nat) (l : List Bool) (u : Value) (X : World) : Prop := ∃ a c, u = .slice a n c ∧ OwnT B X a c l
def CopQ (B n : Nat) (l : List ByteArray) (u : Value) (X : World) : Prop := ∃ q c, u = .slice (some ⟨q, 0, none⟩) n c ∧ RowP X q c l ∧ B ≤ q
theorem CopP.turns {P : Nat → Prop} {B n : Nat} {l : List Bool} {u : Value} {X Y : World} (h : CopP B n l u X) (t : Turns P X Y) (hp : ∀ i, P i → i < B) : CopP B n l u Y := by
 obtain ⟨a, c, e, o⟩ := h
 exact ⟨a, c, e, o.turns t hp⟩
theorem CopQ.turns {P : Nat → Prop} {B n : Nat} {l : List ByteArray} {u : Value} {X Y : World} (h : CopQ B n l u X) (t : Turns P X Y) (hp : ∀ i, P i → i < B) : CopQ B n l u Y := by
 obtain ⟨q, c, e, o, hq⟩ := h
 exact ⟨q, c, e, o.turns t (fun x => by have := hp q x; omega), hq⟩
def CopS (h : Nat) (W : World) (n n' p : Nat) (bs ns : List Bool) (ps : List ByteArray) (s0 s1 s2 r g : Value) (k : Nat) (X : World) : Prop :=
 ∃ u0 u1 u2, ((k ≤ 3 → u0 = s0) ∧ (4 ≤ k → CopP (h + 2) n bs u0 X)) ∧ ((k ≤ 4 → u1 = s1) ∧ (5 ≤ k → CopP (h + 2) n' ns u1 X)) ∧ ((k ≤ 5 → u2 = s2) ∧ (6 ≤ k → CopQ (h + 2) p ps u2 X)) ∧ Box5 X h u0 u1 u2 r g ∧ Box5 X (h + 1) (.slice none 0 0) (.slice none 0 0) (.slice none 0 0) (.int .i64 0) (.int .i64 0) ∧ Turns (fun k => k = h) W X
section
variable {h : Nat} {W X Y : World} {n n' p : Nat} {bs ns : List Bool} {ps : List ByteArray} {s0 s1 s2 r g u : Value} {k : Nat}
theorem CopS.call (s : CopS h W n n' p bs ns ps s0 s1 s2 r g k X) (hb : Below X.heap.size X Y) (hk : k ≤ 2) : CopS h W n n' p bs ns ps s0 s1 s2 r g (k + 1) Y := by
 obtain ⟨u0, u1, u2, e0, e1, e2, bx, bo, tt⟩ := s
 exact ⟨u0, u1, u2, ⟨fun _ => e0.1 (by omega), fun h => by omega⟩, ⟨fun _ => e1.1 (by omega), fun h => by omega⟩, ⟨fun _ => e2.1 (by omega), fun h => by omega⟩, bx.below hb, bo.below hb, tt.tr hb⟩
theorem CopS.lo (s : CopS h W n n' p bs ns ps s0 s1 s2 r g k X) : Turns (fun k => k = h) W X := s.choose_spec.choose_spec.choose_spec.2.2.2.2.2
theorem CopS.put0 (s : CopS h W n n' p bs ns ps s0 s1 s2 r g 3 X) (hu : CopP (h + 2) n bs u X) : CopS h W n n' p bs ns ps s0 s1 s2 r g 4 (X.setCell ⟨h, 0, none⟩ u) := by
 obtain ⟨u0, u1, u2, e0, e1, e2, bx, bo, tt⟩ := s
 have t : Turns (fun k => k = h) X (X.setCell ⟨h, 0, none⟩ u) := Turns.setCell (P := fun k => k = h) (Turns.refl _ _) (p := ⟨h, 0, none⟩) rfl _
 exact ⟨u, u1, u2, ⟨fun h => by omega, fun _ => hu.turns t (fun i e => by omega)⟩, ⟨fun _ => e1.1 (by omega), fun h => by omega⟩, ⟨fun _ => e2.1 (by omega), fun h => by omega⟩, bx.set0 u, bo.turns t (by omega), tt.trans t⟩
theorem CopS.put1 (s : CopS h W n n' p bs ns ps s0 s1 s2 r g 4 X) (hu : CopP (h + 2) n' ns u X) : CopS h W n n' p bs ns ps s0 s1 s2 r g 5 (X.setCell ⟨h, 1, none⟩ u) := by
 obtain ⟨u0, u1, u2, e0, e1, e2, bx, bo, tt⟩ := s
 have t : Turns (fun k => k = h) X (X.setCell ⟨h, 1, none⟩ u) := Turns.setCell (P := fun k => k = h) (Turns.refl _ _) (p := ⟨h, 1, none⟩) rfl _
 exact ⟨u0, u, u2, ⟨fun h => by omega, fun _ => (e0.2 (by omega)).turns t (fun i e => by omega)⟩, ⟨fun h => by omega, fun _ => hu.turns t (fun i e => by omega)⟩, ⟨fun _ => e2.1 (by omega), fun h => by omega⟩, bx.set1 u, bo.turns t (by omega), tt.trans t⟩
theorem CopS.put2 (s : CopS h W n n' p bs ns ps s0 s1 s2 r g 5 X) (hu : CopQ (h + 2) p ps u X) : CopS h W n n' p bs ns ps s0 s1 s2 r g 6 (X.setCell ⟨h, 2, none⟩ u) := by
 obtain ⟨u0, u1, u2, e0, e1, e2, bx, bo, tt⟩ := s
 have t : Turns (fun k => k = h) X (X.setCell ⟨h, 2, none⟩ u) := Turns.setCell (P := fun k => k = h) (Turns.refl _ _) (p := ⟨h, 2, none⟩) rfl _
 exact ⟨u0, u1, u, ⟨fun h => by omega, fun _ => (e0.2 (by omega)).turns t (fun i e => by omega)⟩, ⟨fun h => by omega, fun _ => (e1.2 (by omega)).turns t (fun i e => by omega)⟩, ⟨fun h => by omega, fun _ => hu.turns t (fun i e => by omega)⟩, bx.set2 u, bo.turns t (by omega), tt.trans t⟩
end
def copV (h n n' p : Nat) (bs ns : List Bool) (ps : List ByteArray) (s0 s1 s2 : Value) (i : Nat) (v : Value) (X : World) : Prop :=
 match i with
 | 0 | 1 | 4 | 11 | 12 | 14 => v = .pointer (some ⟨h, 0, none⟩)
 | 5 | 15 => v = .pointer (some ⟨h, 1, none⟩)
 | 8 | 17 => v = .pointer (some ⟨h, 2, none⟩)
 | 2 => v = s0
 | 6 => v = s1
 | 9 => v = s2
 | 3 => CopP (h + 2) n bs v X
 | 7 => CopP (h + 2) n' ns v X
 | 10 => CopQ (h + 2) p ps v X
 | _ => True
def CopC (w : World) (e : Ending) (w' : World) (n n' p : Nat) (bs ns : List Bool) (ps : List ByteArray) (root gen : Int) : Prop :=
 ∃ a1 c1 a2 c2 q cp, e = .returned (.agg #[.slice a1 n c1, .slice a2 n' c2, .slice (some ⟨q, 0, none⟩) p cp, .int .i64 root, .int .i64 gen]) ∧ OwnT w.heap.size w' a1 c1 bs ∧ OwnT w.heap.size w' a2 c2 ns ∧ RowP w' q cp ps ∧ w.heap.size ≤ q ∧ Below w.heap.size w w'
set_option maxRecDepth 20000 in
set_option maxHeartbeats 4000000 in
theorem copied_any (a a' b : Option Addr) (n c n' c' p f : Nat) (bs ns : List Bool) (ps : List ByteArray) (root gen : Int) (w : World) (hn : n = bs.length) (hn' : n' = ns.length) (hp : p = ps.length) (hB : IsB w a c bs) (hB' : IsB w a' c' ns) (hP : IsS w b f ps) (h1 : 1 ≤ p) (h2 : n ≤ 4096) (h3 : n' ≤ 4096) (h4 : p ≤ 4096) :
  Calls Tryz.prog 32 #[.agg #[.slice a n c, .slice a' n' c', .slice b p f, .int .i64 root, .int .i64 gen]] w fun e w' => CopC w e w' n n' p bs ns ps root gen := by
 obtain ⟨W, hW⟩ : ∃ W, W = (w.alloc (.cells #[.slice a n c, .slice a' n' c', .slice b p f, .int .i64 root, .int .i64 gen] 27)).alloc (.cells #[.slice none 0 0, .slice none 0 0, .slice none 0 0, .int .i64 0, .int .i64 0] 27) := ⟨_, rfl⟩
 have BX : Box5 W w.heap.size (.slice a n c) (.slice a' n' c') (.slice b p f) (.int .i64 root) (.int .i64 gen) := by rw [hW]; exact (box5_new _ _ _ _ _ _ _ rfl).alloc _
 have BO : Box5 W (w.heap.size + 1) (.slice none 0 0) (.slice none 0 0) (.slice none 0 0) (.int .i64 0) (.int .i64 0) := by rw [hW]; exact box5_new _ _ _ _ _ _ _ (by simp)
 have HB : Below w.heap.size w W := by rw [hW]; exact ((Below.refl _ _).alloc (Nat.le_refl _) _).alloc (by simp) _
 have hWs : W.heap.size = w.heap.size + 2 := by rw [hW]; simp
 obtain ⟨V0, hV0⟩ : ∃ X, X = W.drew := ⟨_, rfl⟩
 have hD0 : Below W.heap.size W V0 := by rw [hV0]; exact (Below.refl _ _).drew
 have hVs : V0.heap.size = w.heap.size + 2 := by rw [hV0]; exact hWs
 have hBV := Below.tr HB hD0
 have lowT : ∀ X, Turns (fun k => k = w.heap.size) V0 X → Below w.heap.size w X := fun X t => Below.turns hBV t fun i e => by omega
 have c0 : ∀ X, Turns (fun k => k = w.heap.size) V0 X → Calls Tryz.prog 51 #[.slice a n c] X fun e w' => ∃ v, e = .returned v ∧ CopP (w.heap.size + 2) n bs v w' ∧ Below X.heap.size X w' := fun X t =>
  (clone_any a c n bs X hn (hB.below (lowT X t)) h2).mono fun e w' hx => by
   obtain ⟨a1, k1, rfl, o, hb⟩ := hx
   exact ⟨_, rfl, ⟨a1, k1, rfl, o.mono (by have := t.size; omega)⟩, hb⟩
 have c1 : ∀ X, Turns (fun k => k = w.heap.size) V0 X → Calls Tryz.prog 51 #[.slice a' n' c'] X fun e w' => ∃ v, e = .returned v ∧ CopP (w.heap.size + 2) n' ns v w' ∧ Below X.heap.size X w' := fun X t =>
  (clone_any a' c' n' ns X hn' (hB'.below (lowT X t)) h3).mono fun e w' hx => by
   obtain ⟨a1, k1, rfl, o, hb⟩ := hx
   exact ⟨_, rfl, ⟨a1, k1, rfl, o.mono (by have := t.size; omega)⟩, hb⟩
 have c2 : ∀ X, Turns (fun k => k = w.heap.size) V0 X → Calls Tryz.prog 52 #[.slice b p f] X fun e w' => ∃ v, e = .returned v ∧ CopQ (w.heap.size + 2) p ps v w' ∧ Below X.heap.size X w' := fun X t =>
  (cloneS_any b f p ps X hp (hP.below (lowT X t)) h1 h4).mono fun e w' hx => by
   obtain ⟨g, cap, rfl, o, hg, hb⟩ := hx
   exact ⟨_, rfl, ⟨g, cap, rfl, o, by have := t.size; omega⟩, hb⟩
 have S0 : CopS w.heap.size V0 n n' p bs ns ps (.slice a n c) (.slice a' n' c') (.slice b p f) (.int .i64 root) (.int .i64 gen) 0 V0 :=
  ⟨_, _, _, ⟨fun _ => rfl, fun h => by omega⟩, ⟨fun _ => rfl, fun h => by omega⟩, ⟨fun _ => rfl, fun h => by omega⟩, BX.below hD0, BO.below hD0, Turns.refl _ _⟩
 clear hn hn' hp hB hB' hP h1 h2 h3 h4 hWs
 go_enter Tryz.func32, Tryz.ntmps32
 go_wp2
 rw [← hW]
 refine region_chain (by kernel_rfl) [3, 7, 10, 13, 16, 18] (copV w.heap.size n n' p bs ns ps (.slice a n c) (.slice a' n' c') (.slice b p f)) (CopS w.heap.size V0 n n' p bs ns ps (.slice a n c) (.slice a' n' c') (.slice b p f) (.int .i64 root) (.int .i64 gen)) (Turns (fun k => k = w.heap.size)) (by kernel_rfl) (by kernel_rfl) ?mono (by rw [← hV0]; exact S0) ?step 19 rfl ?done
 case mono =>
  intro i v X Y t hv
  unfold copV at hv ⊢
  split at hv
  all_goals first
   | exact hv
   | exact CopP.turns hv t (fun i e => by omega)
   | exact CopQ.turns hv t (fun i e => by omega)
   | trivial
 case step =>
  clear hW hV0 hD0 hBV lowT S0 BX BO HB hVs
  intro i oo ho k a9 X hk6 hmay hS hdf hsz hdep hsame
  simp only [List.length_cons, List.length_nil] at hk6
  match i, ho with
  | 0, ho =>
   cases ho
   have h1 := hsame 1 rfl
   exact op_value rfl (wanted_free rfl) (by clear hdep hsame hsz hdf; go_simp) rfl (by rw [if_neg (by decide)]; exact hS) (Turns.refl _ _)
  | 1, ho =>
   cases ho
   obtain ⟨_, h3, rfl⟩ := hdep 0 _ 3 rfl rfl rfl
   exact op_value rfl (wanted_free rfl) (by clear hdep hsame hsz hdf; go_simp) rfl (by rw [if_neg (by decide)]; exact hS) (Turns.refl _ _)
  | 2, ho =>
   cases ho
   obtain ⟨_, h4, rfl⟩ := hdep 1 _ 4 rfl rfl rfl
   have hk : k ≤ 0 := by
    clear hS hdep hsame
    rcases (by omega : k = 0 ∨ k = 1 ∨ k = 2 ∨ k = 3 ∨ k = 4 ∨ k = 5 ∨ k = 6) with rfl | rfl | rfl | rfl | rfl | rfl | rfl <;> first | omega | exact absurd hmay (Bool.eq_false_iff.1 (by kernel_rfl))
   obtain ⟨u0, u1, u2, e0, e1, e2, bx, bo, tt⟩ := id hS
   obtain rfl := e0.1 (by omega)
   obtain rfl := e1.1 (by omega)
   obtain rfl := e2.1 (by omega)
   obtain ⟨x0, x1, x2, x3, x4⟩ := bx.1
   exact op_value rfl (wanted_free rfl) (by clear hdep hsame hsz hdf; go_simp) rfl (by rw [if_neg (by decide)]; exact hS) (Turns.refl _ _)
  | 3, ho =>
   cases ho
   obtain ⟨_, h5, rfl⟩ := hdep 2 _ 5 rfl rfl rfl
   have hk : k = 0 := by
    clear hS hdep hsame
    rcases (by omega : k = 0 ∨ k = 1 ∨ k = 2 ∨ k = 3 ∨ k = 4 ∨ k = 5 ∨ k = 6) with rfl | rfl | rfl | rfl | rfl | rfl | rfl <;> first | omega | exact absurd hmay (Bool.eq_false_iff.1 (by kernel_rfl))
   subst hk
   exact op_call rfl (wanted_free rfl) (by clear hdep hsame hsz hdf; go_simp) ((c0 X (CopS.lo hS)).mono fun e X' hx => by
    obtain ⟨v, he, hv, hb⟩ := hx
    exact ⟨v, he, hv, by rw [if_pos (by decide)]; exact hS.call hb (by decide), Turns.of_below hb⟩)
  | 4, ho =>
   cases ho
   have h1 := hsame 1 rfl
   exact op_value rfl (wanted_free rfl) (by clear hdep hsame hsz hdf; go_simp) rfl (by rw [if_neg (by decide)]; exact hS) (Turns.refl _ _)
  | 5, ho =>
   cases ho
   obtain ⟨_, h7, rfl⟩ := hdep 4 _ 7 rfl rfl rfl
   exact op_value rfl (wanted_free rfl) (by clear hdep hsame hsz hdf; go_simp) rfl (by rw [if_neg (by decide)]; exact hS) (Turns.refl _ _)
  | 6, ho =>
   cases ho
   obtain ⟨_, h8, rfl⟩ := hdep 5 _ 8 rfl rfl rfl
   have hk : k ≤ 1 := by
    clear hS hdep hsame
    rcases (by omega : k = 0 ∨ k = 1 ∨ k = 2 ∨ k = 3 ∨ k = 4 ∨ k = 5 ∨ k = 6) with rfl | rfl | rfl | rfl | rfl | rfl | rfl <;> first | omega | exact absurd hmay (Bool.eq_false_iff.1 (by kernel_rfl))
   obtain ⟨u0, u1, u2, e0, e1, e2, bx, bo, tt⟩ := id hS
   obtain rfl := e0.1 (by omega)
   obtain rfl := e1.1 (by omega)
   obtain rfl := e2.1 (by omega)
   obtain ⟨x0, x1, x2, x3, x4⟩ := bx.1
   exact op_value rfl (wanted_free rfl) (by clear hdep hsame hsz hdf; go_simp) rfl (by rw [if_neg (by decide)]; exact hS) (Turns.refl _ _)
  | 7, ho =>
   cases ho
   obtain ⟨_, h9, rfl⟩ := hdep 6 _ 9 rfl rfl rfl
   have hk : k = 1 := by
    clear hS hdep hsame
    rcases (by omega : k = 0 ∨ k = 1 ∨ k = 2 ∨ k = 3 ∨ k = 4 ∨ k = 5 ∨ k = 6) with rfl | rfl | rfl | rfl | rfl | rfl | rfl <;> first | omega | exact absurd hmay (Bool.eq_false_iff.1 (by kernel_rfl))
   subst hk
   exact op_call rfl (wanted_free rfl) (by clear hdep hsame hsz hdf; go_simp) ((c1 X (CopS.lo hS)).mono fun e X' hx => by
    obtain ⟨v, he, hv, hb⟩ := hx
    exact ⟨v, he, hv, by rw [if_pos (by decide)]; exact hS.call hb (by decide), Turns.of_below hb⟩)
  | 8, ho =>
   cases ho
   have h1 := hsame 1 rfl
   exact op_value rfl (wanted_free rfl) (by clear hdep hsame hsz hdf; go_simp) rfl (by rw [if_neg (by decide)]; exact hS) (Turns.refl _ _)
  | 9, ho =>
   cases ho
   obtain ⟨_, h11, rfl⟩ := hdep 8 _ 11 rfl rfl rfl
   have hk : k ≤ 2 := by
    clear hS hdep hsame
    rcases (by omega : k = 0 ∨ k = 1 ∨ k = 2 ∨ k = 3 ∨ k = 4 ∨ k = 5 ∨ k = 6) with rfl | rfl | rfl | rfl | rfl | rfl | rfl <;> first | omega | exact absurd hmay (Bool.eq_false_iff.1 (by kernel_rfl))
   obtain ⟨u0, u1, u2, e0, e1, e2, bx, bo, tt⟩ := id hS
   obtain rfl := e0.1 (by omega)
   obtain rfl := e1.1 (by omega)
   obtain rfl := e2.1 (by omega)
   obtain ⟨x0, x1, x2, x3, x4⟩ := bx.1
   exact op_value rfl (wanted_free rfl) (by clear hdep hsame hsz hdf; go_simp) rfl (by rw [if_neg (by decide)]; exact hS) (Turns.refl _ _)
  | 10, ho =>
   cases ho
   obtain ⟨_, h12, rfl⟩ := hdep 9 _ 12 rfl rfl rfl
   have hk : k = 2 := by
    clear hS hdep hsame
    rcases (by omega : k = 0 ∨ k = 1 ∨ k = 2 ∨ k = 3 ∨ k = 4 ∨ k = 5 ∨ k = 6) with rfl | rfl | rfl | rfl | rfl | rfl | rfl <;> first | omega | exact absurd hmay (Bool.eq_false_iff.1 (by kernel_rfl))
   subst hk
   exact op_call rfl (wanted_free rfl) (by clear hdep hsame hsz hdf; go_simp) ((c2 X (CopS.lo hS)).mono fun e X' hx => by
    obtain ⟨v, he, hv, hb⟩ := hx
    exact ⟨v, he, hv, by rw [if_pos (by decide)]; exact hS.call hb (by decide), Turns.of_below hb⟩)
  | 11, ho =>
   cases ho
   have h1 := hsame 1 rfl
   exact op_value rfl (wanted_free rfl) (by clear hdep hsame hsz hdf; go_simp) rfl (by rw [if_neg (by decide)]; exact hS) (Turns.refl _ _)
  | 12, ho =>
   cases ho
   obtain ⟨_, h14, rfl⟩ := hdep 11 _ 14 rfl rfl rfl
   exact op_value rfl (wanted_free rfl) (by clear hdep hsame hsz hdf; go_simp) rfl (by rw [if_neg (by decide)]; exact hS) (Turns.refl _ _)
  | 13, ho =>
   cases ho
   obtain ⟨_, h15, rfl⟩ := hdep 12 _ 15 rfl rfl rfl
   obtain ⟨u, h6, hu⟩ := hdep 3 _ 6 rfl rfl rfl
   have hk : k = 3 := by
    clear hS hdep hsame
    rcases (by omega : k = 0 ∨ k = 1 ∨ k = 2 ∨ k = 3 ∨ k = 4 ∨ k = 5 ∨ k = 6) with rfl | rfl | rfl | rfl | rfl | rfl | rfl <;> first | omega | exact absurd hmay (Bool.eq_false_iff.1 (by kernel_rfl))
   subst hk
   obtain ⟨v0, v1, v2, e0, e1, e2, bx, bo, tt⟩ := id hS
   obtain ⟨⟨x0, x1, x2, x3, x4⟩, f0, f1, f2, f3, f4⟩ := bx
   clear e0 e1 e2 bo tt
   have hu1 : CopP _ _ _ u X := hu
   obtain ⟨z, zc, rfl, -⟩ := id hu1
   clear hu
   exact op_skip (w' := X.setCell ⟨w.heap.size, 0, none⟩ (.slice z n zc)) rfl (wanted_free rfl) rfl (by clear hdep hsame hsz hdf; go_simp) trivial (by rw [if_pos (by decide)]; exact hS.put0 hu1) (Turns.setCell (P := fun k => k = w.heap.size) (Turns.refl _ _) (p := ⟨w.heap.size, 0, none⟩) rfl _)
  | 14, ho =>
   cases ho
   have h1 := hsame 1 rfl
   exact op_value rfl (wanted_free rfl) (by clear hdep hsame hsz hdf; go_simp) rfl (by rw [if_neg (by decide)]; exact hS) (Turns.refl _ _)
  | 15, ho =>
   cases ho
   obtain ⟨_, h16, rfl⟩ := hdep 14 _ 16 rfl rfl rfl
   exact op_value rfl (wanted_free rfl) (by clear hdep hsame hsz hdf; go_simp) rfl (by rw [if_neg (by decide)]; exact hS) (Turns.refl _ _)
  | 16, ho =>
   cases ho
   obtain ⟨_, h17, rfl⟩ := hdep 15 _ 17 rfl rfl rfl
   obtain ⟨u, h10, hu⟩ := hdep 7 _ 10 rfl rfl rfl
   have hk : k = 4 := by
    clear hS hdep hsame
    rcases (by omega : k = 0 ∨ k = 1 ∨ k = 2 ∨ k = 3 ∨ k = 4 ∨ k = 5 ∨ k = 6) with rfl | rfl | rfl | rfl | rfl | rfl | rfl <;> first | omega | exact absurd hmay (Bool.eq_false_iff.1 (by kernel_rfl))
   subst hk
   obtain ⟨v0, v1, v2, e0, e1, e2, bx, bo, tt⟩ := id hS
   obtain ⟨⟨x0, x1, x2, x3, x4⟩, f0, f1, f2, f3, f4⟩ := bx
   clear e0 e1 e2 bo tt
   have hu1 : CopP _ _ _ u X := hu
   obtain ⟨z, zc, rfl, -⟩ := id hu1
   clear hu
   exact op_skip (w' := X.setCell ⟨w.heap.size, 1, none⟩ (.slice z n' zc)) rfl (wanted_free rfl) rfl (by clear hdep hsame hsz hdf; go_simp) trivial (by rw [if_pos (by decide)]; exact hS.put1 hu1) (Turns.setCell (P := fun k => k = w.heap.size) (Turns.refl _ _) (p := ⟨w.heap.size, 1, none⟩) rfl _)
  | 17, ho =>
   cases ho
   have h1 := hsame 1 rfl
   exact op_value rfl (wanted_free rfl) (by clear hdep hsame hsz hdf; go_simp) rfl (by rw [if_neg (by decide)]; exact hS) (Turns.refl _ _)
  | 18, ho =>
   cases ho
   obtain ⟨_, h18, rfl⟩ := hdep 17 _ 18 rfl rfl rfl
   obtain ⟨u, h13, hu⟩ := hdep 10 _ 13 rfl rfl rfl
   have hk : k = 5 := by
    clear hS hdep hsame
    rcases (by omega : k = 0 ∨ k = 1 ∨ k = 2 ∨ k = 3 ∨ k = 4 ∨ k = 5 ∨ k = 6) with rfl | rfl | rfl | rfl | rfl | rfl | rfl <;> first | omega | exact absurd hmay (Bool.eq_false_iff.1 (by kernel_rfl))
   subst hk
   obtain ⟨v0, v1, v2, e0, e1, e2, bx, bo, tt⟩ := id hS
   obtain ⟨⟨x0, x1, x2, x3, x4⟩, f0, f1, f2, f3, f4⟩ := bx
   clear e0 e1 e2 bo tt
   have hu1 : CopQ _ _ _ u X := hu
   obtain ⟨z, zc, rfl, -⟩ := id hu1
   clear hu
   exact op_skip (w' := X.setCell ⟨w.heap.size, 2, none⟩ (.slice (some ⟨z, 0, none⟩) p zc)) rfl (wanted_free rfl) rfl (by clear hdep hsame hsz hdf; go_simp) trivial (by rw [if_pos (by decide)]; exact hS.put2 hu1) (Turns.setCell (P := fun k => k = w.heap.size) (Turns.refl _ _) (p := ⟨w.heap.size, 2, none⟩) rfl _)
  | k + 19, ho => simp at ho
 case done =>
  intro val X hS hV
  clear hV c0 c1 c2 S0 BX BO
  obtain ⟨u0, u1, u2, e0, e1, e2, bx, bo, tt⟩ := hS
  obtain ⟨a1, k1, rfl, o1⟩ := e0.2 (by decide)
  obtain ⟨a2, k2, rfl, o2⟩ := e1.2 (by decide)
  obtain ⟨q, cp, rfl, o3, hq⟩ := e2.2 (by decide)
  clear e0 e1 e2
  have HO : Hid (OwnT (w.heap.size + 2) X a1 k1 bs ∧ OwnT (w.heap.size + 2) X a2 k2 ns ∧ RowP X q cp ps ∧ w.heap.size + 2 ≤ q) := ⟨o1, o2, o3, hq⟩
  have HL : Hid (Below w.heap.size w X) := lowT X tt
  clear o1 o2 o3 hq tt lowT hBV hD0 hVs HB hV0 hW
  have hz := set5_box bo.1 (.slice a1 n k1) (.slice a2 n' k2) (.slice (some ⟨q, 0, none⟩) p cp) (.int .i64 root) (.int .i64 gen)
  have hzt : Turns (fun k => k = w.heap.size + 1) X (set5 X (w.heap.size + 1) (.slice a1 n k1) (.slice a2 n' k2) (.slice (some ⟨q, 0, none⟩) p cp) (.int .i64 root) (.int .i64 gen)) := set5_turns (P := fun k => k = w.heap.size + 1) (Turns.refl _ _) rfl _ _ _ _ _
  obtain ⟨⟨x0, x1, x2, x3, x4⟩, -⟩ := bx
  obtain ⟨⟨y0, y1, y2, y3, y4⟩, f0, f1, f2, f3, f4⟩ := bo
  obtain ⟨z0, z1, z2, z3, z4⟩ := hz
  have HZ : Hid (CopC w (.returned (.agg #[.slice a1 n k1, .slice a2 n' k2, .slice (some ⟨q, 0, none⟩) p cp, .int .i64 root, .int .i64 gen])) (set5 X (w.heap.size + 1) (.slice a1 n k1) (.slice a2 n' k2) (.slice (some ⟨q, 0, none⟩) p cp) (.int .i64 root) (.int .i64 gen)) n n' p bs ns ps root gen) := by
   obtain ⟨o1, o2, o3, hq⟩ := HO.out
   exact ⟨a1, k1, a2, k2, q, cp, rfl, (o1.turns hzt fun i e => by omega).mono (by omega), (o2.turns hzt fun i e => by omega).mono (by omega), o3.turns hzt (by omega), by omega, Below.turns HL.out hzt fun i e => by omega⟩
  clear hzt HO HL
  unfold set5 at z0 z1 z2 z3 z4 HZ
  simp [filledN]
  go_wp2
  refine bodyPost_ret (v := .agg #[.slice a1 n k1, .slice a2 n' k2, .slice (some ⟨q, 0, none⟩) p cp, .int .i64 root, .int .i64 gen]) (by simp [results, Tryz.results32, go_sem, z0, z1, z2, z3, z4]) rfl HZ.out
end Go.Proofs.YtaecfbfcjaailaaGreat
namespace Go.Proofs.YtaecfbfcjaailaaGreat.Anylast
open Go
theorem region_late {P : Program} {ops : Array Oper} {Q : Exit → Act → World → Prop} {id : Nat} {a0 : Act} {w0 : World} (hm : P.follows .mixedOrders = true) (l : Nat) (val : Nat → Value) (S : Bool → World → Prop)
  (hfit : fit ops a0.tmps.size = true) (hch : chained ops [l] = true)
  (hS : S false w0.drew)
  (hstep : ∀ i o, ops[i]? = some o → i ≠ l → ∀ b a w, S b w → a.defers = a0.defers → a.tmps.size = a0.tmps.size →
   (∀ j oj d, ops[j]? = some oj → oj.dst = some d → waits o j = true → a.tmps[d]? = some (val j)) →
   (∀ d, free ops i d = true → a.tmps[d]? = a0.tmps[d]?) →
   wpOp P ops Q i (fun a' w' => ∃ v, a' = a.put o.dst v ∧ (o.dst.isSome = true → v = val i) ∧ S b w' ∧ True) a w)
  (hlast : ∀ o, ops[l]? = some o → ∀ a w, S false w → a.defers = a0.defers → a.tmps.size = a0.tmps.size →
   (∀ j oj d, ops[j]? = some oj → oj.dst = some d → waits o j = true → a.tmps[d]? = some (val j)) →
   (∀ d, free ops l d = true → a.tmps[d]? = a0.tmps[d]?) →
   wpOp P ops Q l (fun a' w' => ∃ v, a' = a.put o.dst v ∧ (o.dst.isSome = true → v = val l) ∧ S true w' ∧ True) a w)
  (n : Nat) (hn : ops.size = n) (hdone : ∀ w, S true w → Q .normal ⟨filledN ops val a0.tmps n, a0.defers⟩ w) :
  (Code.region id ops true).wp P Q a0 w0 := by
 refine region_chain hm [l] (fun i v _ => ∀ o, ops[i]? = some o → o.dst.isSome = true → v = val i) (fun k w => S (decide (k ≠ 0)) w) (fun _ _ => True) hfit hch (fun i v w w' _ h => h) hS ?_ n hn ?_
 ·
  intro i o ho k a w hk hmay hs hdf hsz hdep hsame
  have hdep' : ∀ j oj d, ops[j]? = some oj → oj.dst = some d → waits o j = true → a.tmps[d]? = some (val j) := by
   intro j oj d hj hd hw
   obtain ⟨v, hv, hV⟩ := hdep j oj d hj hd hw
   rw [hv, hV oj hj (by rw [hd]; rfl)]
  by_cases hi : i = l
  ·
   subst hi
   have hk0 : k = 0 := by
    unfold mayAt at hmay
    rw [if_pos (by simp)] at hmay
    match k, hmay with
    | 0, _ => rfl
    | k + 1, h => simp at h
   subst hk0
   refine wpOp_mono ?_ (hlast o ho a w hs hdf hsz hdep' hsame)
   rintro a' w' ⟨v, h1, h2, h3, _⟩
   refine ⟨v, h1, fun o' ho' hd' => ?_, ?_, trivial⟩
   ·
    rw [ho] at ho'
    cases ho'
    exact h2 hd'
   ·
    rw [if_pos (by simp)]
    exact h3
  ·
   refine wpOp_mono ?_ (hstep i o ho hi _ a w hs hdf hsz hdep' hsame)
   rintro a' w' ⟨v, h1, h2, h3, _⟩
   refine ⟨v, h1, fun o' ho' hd' => ?_, ?_, trivial⟩
   ·
    rw [ho] at ho'
    cases ho'
    exact h2 hd'
   ·
    rw [if_neg (by simpa using hi)]
    exact h3
 ·
  intro val' w hs hV
  rw [filledN_congr n fun j oj hj hd => hV j oj hj hd oj hj hd]
  exact hdone w hs
end Go.Proofs.YtaecfbfcjaailaaGreat.Anylast
namespace Go.Proofs.YtaecfbfcjaailaaGreat
open Go.RowKit Plain Anylast
set_option linter.unusedVariables false
def writeV (h q p cp i : Nat) (kind gen E : Int) (nd : Value) (body S : ByteArray) : Nat → Value
 | 0 => .pointer (some ⟨h, 0, none⟩)
 | 1 => .pointer (some ⟨h, 0, none⟩)
 | 2 => .pointer (some ⟨h, 0, none⟩)
 | 3 => .pointer (some ⟨h, 2, none⟩)
 | 4 => .slice (some ⟨q, 0, none⟩) p cp
 | 5 => .int .i64 i
 | 6 => nd
 | 7 => .int .i64 kind
 | 8 => .pointer (some ⟨h, 0, none⟩)
 | 9 => .pointer (some ⟨h, 0, none⟩)
 | 10 => .pointer (some ⟨h, 0, none⟩)
 | 11 => .pointer (some ⟨h, 4, none⟩)
 | 12 => .int .i64 gen
 | 13 => .string body
 | 14 => .agg #[.int .i64 kind, .int .i64 gen, .string body]
 | 15 => .tuple #[.string S, .int .i64 E]
 | 16 => .tuple #[.string S, .int .i64 E]
 | 17 => .string S
 | 18 => .int .i64 E
 | 19 => .pointer (some ⟨q, i, none⟩)
 | _ => undef
set_option maxRecDepth 20000 in
set_option maxHeartbeats 4000000 in
theorem write_any (h q cp : Nat) (a : Option Addr) (c : Nat) (a' : Option Addr) (c' : Nat) (G : WoodS) (i : Nat) (l : Bool) (a1 : Option Addr) (k1 d1 : Nat) (a2 : Option Addr) (k2 d2 : Nat) (a3 : Option Addr) (k3 d3 : Nat) (ks vs : List ByteArray) (cs : List Int) (w : World) (GA : GrowAt w h q cp a c a' c' G) (hi : i < G.pages.length)
  (hk1 : k1 = ks.length) (hk2 : k2 = vs.length) (hk3 : k3 = cs.length) (h1 : IsS w a1 d1 ks) (h2 : IsS w a2 d2 vs) (h3 : IsI w a3 d3 cs) :
  Calls Tryz.prog 84 #[.pointer (some ⟨h, 0, none⟩), .int .i64 i, .agg #[.bool l, .slice a1 k1 d1, .slice a2 k2 d2, .slice a3 k3 d3]] w fun e w' => e = .returned (.int .i64 (writeG G i (l, ks, vs, cs)).1) ∧ GrowAt w' h q cp a c a' c' (writeG G i (l, ks, vs, cs)).2 ∧ Turns (Mine h q) w w' := by
 obtain ⟨W, hW⟩ : ∃ W, W = w.alloc (.cells #[.bool l, .slice a1 k1 d1, .slice a2 k2 d2, .slice a3 k3 d3] 76) := ⟨_, rfl⟩
 have BN : Box4 W w.heap.size (.bool l) (.slice a1 k1 d1) (.slice a2 k2 d2) (.slice a3 k3 d3) := by rw [hW]; exact box4_new _ _ _ _ _ _ rfl
 have HB : Below w.heap.size w W := by rw [hW]; exact (Below.refl _ _).alloc (Nat.le_refl _) _
 have GAw := GA
 replace GA := GA.below HB
 have TT : Turns (Mine h q) w W := Turns.of_below HB
 have cN := nodePut_any l a1 a2 a3 d1 d2 d3 k1 k2 k3 ks vs cs W hk1 hk2 hk3 (h1.below HB) (h2.below HB) (h3.below HB)
 have cK : ∀ X, Calls Tryz.prog 102 #[.agg #[.bool l, .slice a1 k1 d1, .slice a2 k2 d2, .slice a3 k3 d3]] X fun e w' => e = .returned (.int .i64 (kindN (l, ks, vs, cs))) ∧ Below X.heap.size X w' := fun X => kindOf_any l a1 a2 a3 k1 d1 k2 d2 k3 d3 X
 have hlt : (i : Int) < G.pages.length := by omega
 have mp : G.pages.length ≤ 9223372036854775807 := Nat.le_trans GA.pg.le GA.pg.mx
 clear h1 h2 h3 hk1 hk2 hk3
 obtain ⟨⟨q0, q1, q2, q3⟩, -⟩ := id (hW ▸ BN)
 cases hr : rightN l ks vs cs true with
 | false =>
  have e1 : nPutS l ks vs cs = ⟨#[]⟩ := by unfold nPutS; rw [hr]; rfl
  have e2 : nPutE l ks vs cs = 1 := by unfold nPutE; rw [hr]; rfl
  have e3 : writeG G i (l, ks, vs, cs) = (81, G) := write_bad (by unfold nodeRight; exact hr)
  rw [e1, e2] at cN
  rw [e3]
  clear e1 e2 e3 hr cK hlt mp hi
  go_enter Tryz.func84, Tryz.ntmps84
  go_wp2_with (go_at_call 100; rw [← hW]; refine cN.mono ?_; rintro y w1 ⟨rfl, hb⟩; replace GA := GA.below hb; replace TT := Turns.tr TT hb; clear hb)
  go_ret
  exact ⟨rfl, GA, TT⟩
 | true =>
  have e1 : nPutS l ks vs cs = nodeBytes (l, ks, vs, cs) := by unfold nPutS; rw [hr]; rfl
  have e2 : nPutE l ks vs cs = 0 := by unfold nPutE; rw [hr]; rfl
  have e3 : writeG G i (l, ks, vs, cs) = (0, G.withPage i (nodePage G.gen (l, ks, vs, cs))) := by unfold writeG; rw [if_pos (by unfold nodeRight; exact hr), Int.toNat_natCast]
  have ms : (nodeBytes (l, ks, vs, cs)).size ≤ maxLen := Nat.le_trans (node_size hr) (by decide)
  have cP : ∀ X, Calls Tryz.prog 101 #[.agg #[.int .i64 (kindN (l, ks, vs, cs)), .int .i64 G.gen, .string (nodeBytes (l, ks, vs, cs))]] X fun e w' => e = .returned (.tuple #[.string (nodePage G.gen (l, ks, vs, cs)), .int .i64 (pageE (kindN (l, ks, vs, cs)) G.gen (nodeBytes (l, ks, vs, cs)))]) ∧ Below X.heap.size X w' := fun X => pagePut_any _ _ _ X ms
  have mS : (nodePage G.gen (l, ks, vs, cs)).size ≤ maxLen := Nat.le_trans (nodePage_size _ _) (by decide)
  have hfz : ∃ s, G.pages[i]? = some s := ⟨_, List.getElem?_eq_getElem hi⟩
  rw [e1, e2] at cN
  rw [e3]
  clear e1 e2 e3 hr ms
  generalize nodeBytes (l, ks, vs, cs) = body at *
  generalize nodePage G.gen (l, ks, vs, cs) = S at *
  generalize kindN (l, ks, vs, cs) = kind at *
  generalize pageE kind G.gen body = E at *
  go_enter Tryz.func84, Tryz.ntmps84
  go_wp2_with (go_at_call 100; rw [← hW]; refine cN.mono ?_; rintro y w1 ⟨rfl, hb⟩; replace GA := GA.below hb; replace BN := BN.below hb; replace TT := Turns.tr TT hb; clear hb q0 q1 q2 q3)
  clear hW cN HB
  have hU := (Below.refl w1.heap.size w1).drew
  refine region_late (by kernel_rfl) 20 (writeV h q G.pages.length cp i kind G.gen E (.agg #[.bool l, .slice a1 k1 d1, .slice a2 k2 d2, .slice a3 k3 d3]) body S)
   (fun b X => GrowAt X h q cp a c a' c' (if b = true then G.withPage i S else G) ∧ Box4 X w.heap.size (.bool l) (.slice a1 k1 d1) (.slice a2 k2 d2) (.slice a3 k3 d3) ∧ Turns (Mine h q) w X)
   (by kernel_rfl) (by kernel_rfl) ⟨GA.below hU, BN.below hU, Turns.tr TT hU⟩ ?step ?last 21 rfl ?done
  case step =>
   clear hU GA BN TT
   intro j oo ho hne bb a9 X hS hdf hsz hdep hsame
   obtain ⟨GA, BN, TT⟩ := id hS
   have hbox : WoodBox X h (.slice a G.base.length c) (.slice a' G.now.length c') (.slice (some ⟨q, 0, none⟩) G.pages.length cp) (.int .i64 G.root) (.int .i64 G.gen) := by
    have := GA.box
    cases bb with
    | false => exact this
    | true =>
     have e : (G.withPage i S).pages.length = G.pages.length := List.length_set ..
     simp only [if_true] at this
     rw [e] at this
     exact this
   obtain ⟨x0, x1, x2, x3, x4⟩ := hbox
   obtain ⟨⟨n0, n1, n2, n3⟩, -⟩ := id BN
   match j, ho with
   | 0, ho =>
    cases ho
    have h0 := hsame 0 rfl
    exact val_op rfl (wanted_free rfl) (by clear hdep hsame hsz hdf; simp only [writeV]; go_simp) rfl hS
   | 1, ho =>
    cases ho
    have h17 := hdep 0 _ 17 rfl rfl rfl
    simp only [writeV] at h17
    exact val_op rfl (wanted_free rfl) (by clear hdep hsame hsz hdf; simp only [writeV]; go_simp) rfl hS
   | 2, ho =>
    cases ho
    have h18 := hdep 1 _ 18 rfl rfl rfl
    simp only [writeV] at h18
    exact val_op rfl (wanted_free rfl) (by clear hdep hsame hsz hdf; simp only [writeV]; go_simp) rfl hS
   | 3, ho =>
    cases ho
    have h19 := hdep 2 _ 19 rfl rfl rfl
    simp only [writeV] at h19
    exact val_op rfl (wanted_free rfl) (by clear hdep hsame hsz hdf; simp only [writeV]; go_simp) rfl hS
   | 4, ho =>
    cases ho
    have h20 := hdep 3 _ 20 rfl rfl rfl
    simp only [writeV] at h20
    exact val_op rfl (wanted_free rfl) (by clear hdep hsame hsz hdf; simp only [writeV]; go_simp) rfl hS
   | 5, ho =>
    cases ho
    have h1 := hsame 1 rfl
    exact val_op rfl (wanted_free rfl) (by clear hdep hsame hsz hdf; simp only [writeV]; go_simp) rfl hS
   | 6, ho =>
    cases ho
    have h5 := hsame 5 rfl
    exact val_op rfl (wanted_free rfl) (by clear hdep hsame hsz hdf; simp only [writeV]; go_simp) rfl hS
   | 7, ho =>
    cases ho
    have h23 := hdep 6 _ 23 rfl rfl rfl
    simp only [writeV] at h23
    exact val_call rfl (wanted_free rfl) (by clear hdep hsame hsz hdf; go_simp) ((cK X).mono fun e w'' ⟨he, hb⟩ => ⟨he, GA.below hb, BN.below hb, (Turns.tr TT hb)⟩)
   | 8, ho =>
    cases ho
    have h0 := hsame 0 rfl
    exact val_op rfl (wanted_free rfl) (by clear hdep hsame hsz hdf; simp only [writeV]; go_simp) rfl hS
   | 9, ho =>
    cases ho
    have h25 := hdep 8 _ 25 rfl rfl rfl
    simp only [writeV] at h25
    exact val_op rfl (wanted_free rfl) (by clear hdep hsame hsz hdf; simp only [writeV]; go_simp) rfl hS
   | 10, ho =>
    cases ho
    have h26 := hdep 9 _ 26 rfl rfl rfl
    simp only [writeV] at h26
    exact val_op rfl (wanted_free rfl) (by clear hdep hsame hsz hdf; simp only [writeV]; go_simp) rfl hS
   | 11, ho =>
    cases ho
    have h27 := hdep 10 _ 27 rfl rfl rfl
    simp only [writeV] at h27
    exact val_op rfl (wanted_free rfl) (by clear hdep hsame hsz hdf; simp only [writeV]; go_simp) rfl hS
   | 12, ho =>
    cases ho
    have h28 := hdep 11 _ 28 rfl rfl rfl
    simp only [writeV] at h28
    exact val_op rfl (wanted_free rfl) (by clear hdep hsame hsz hdf; simp only [writeV]; go_simp) rfl hS
   | 13, ho =>
    cases ho
    have h7 := hsame 7 rfl
    exact val_op rfl (wanted_free rfl) (by clear hdep hsame hsz hdf; simp only [writeV]; go_simp) rfl hS
   | 14, ho =>
    cases ho
    have h24 := hdep 7 _ 24 rfl rfl rfl
    have h29 := hdep 12 _ 29 rfl rfl rfl
    have h30 := hdep 13 _ 30 rfl rfl rfl
    simp only [writeV] at h24 h29 h30
    exact val_op rfl (wanted_free rfl) (by clear hdep hsame hsz hdf; simp only [writeV]; go_simp) rfl hS
   | 15, ho =>
    cases ho
    have h31 := hdep 14 _ 31 rfl rfl rfl
    simp only [writeV] at h31
    exact val_call rfl (wanted_free rfl) (by clear hdep hsame hsz hdf; go_simp) ((cP X).mono fun e w'' ⟨he, hb⟩ => ⟨he, GA.below hb, BN.below hb, (Turns.tr TT hb)⟩)
   | 16, ho =>
    cases ho
    have h32 := hdep 15 _ 32 rfl rfl rfl
    simp only [writeV] at h32
    exact val_op rfl (wanted_free rfl) (by clear hdep hsame hsz hdf; simp only [writeV]; go_simp) rfl hS
   | 17, ho =>
    cases ho
    have h16 := hdep 16 _ 16 rfl rfl rfl
    simp only [writeV] at h16
    exact val_op rfl (wanted_free rfl) (by clear hdep hsame hsz hdf; simp only [writeV]; go_simp) rfl hS
   | 18, ho =>
    cases ho
    have h16 := hdep 16 _ 16 rfl rfl rfl
    simp only [writeV] at h16
    exact val_op rfl (wanted_free rfl) (by clear hdep hsame hsz hdf; simp only [writeV]; go_simp) rfl hS
   | 19, ho =>
    cases ho
    have h21 := hdep 4 _ 21 rfl rfl rfl
    have h22 := hdep 5 _ 22 rfl rfl rfl
    simp only [writeV] at h21 h22
    exact val_op rfl (wanted_free rfl) (by clear hdep hsame hsz hdf; simp only [writeV]; go_simp) rfl hS
   | 20, ho => exact absurd rfl hne
   | k + 21, ho => simp at ho
  case last =>
   clear hU GA BN TT
   intro oo ho a9 X hS hdf hsz hdep hsame
   obtain ⟨GA, BN, TT⟩ := id hS
   simp only [Bool.false_eq_true, if_false] at GA
   obtain ⟨s0, hs0⟩ := hfz
   obtain ⟨z0, z1, -⟩ := GA.pg.at_ i s0 hs0
   have BN2 := BN.turns (GA.page i S mS).2 (by show ¬ Mine h q w.heap.size; have e1 := GAw.lt; have e2 := GAw.pg.lt; unfold Mine; omega)
   cases ho
   have h35 := hdep 19 _ 35 rfl rfl rfl
   have h33 := hdep 17 _ 33 rfl rfl rfl
   simp only [writeV] at h35 h33
   exact val_skip (w' := X.setCell ⟨q, i, none⟩ (.string S)) rfl (wanted_free rfl) rfl (by clear hdep hsame hsz hdf; go_simp) ⟨(GA.page i S mS).1, BN2, TT.trans (GA.page i S mS).2⟩
  case done =>
   rintro X ⟨GA2, -, TT2⟩
   simp [filledN, writeV]
   go_wp2
   go_ret
   exact ⟨rfl, GA2, TT2⟩
end Go.Proofs.YtaecfbfcjaailaaGreat
namespace Go.Proofs.YtaecfbfcjaailaaGreat
open Go.RowKit Plain
set_option linter.unusedVariables false
theorem IsS.mine {h q : Nat} {w w' : World} {a : Option Addr} {c : Nat} {l : List ByteArray} (x : IsS w a c l) (t : Turns (Mine h q) w w') (o : Off2 h q a) : IsS w' a c l := x.turns t o.mine
theorem IsI.mine {h q : Nat} {w w' : World} {a : Option Addr} {c : Nat} {l : List Int} (x : IsI w a c l) (t : Turns (Mine h q) w w') (o : Off2 h q a) : IsI w' a c l := x.turns t o.mine
structure NodeR (w : World) (h q : Nat) (a1 : Option Addr) (k1 d1 : Nat) (a2 : Option Addr) (k2 d2 : Nat) (a3 : Option Addr) (k3 d3 : Nat) (ks vs : List ByteArray) (cs : List Int) : Prop where
 e1 : k1 = ks.length
 e2 : k2 = vs.length
 e3 : k3 = cs.length
 i1 : IsS w a1 d1 ks
 i2 : IsS w a2 d2 vs
 i3 : IsI w a3 d3 cs
 o1 : Off2 h q a1
 o2 : Off2 h q a2
 o3 : Off2 h q a3
theorem NodeR.mine {w w' : World} {h q : Nat} {a1 : Option Addr} {k1 d1 : Nat} {a2 : Option Addr} {k2 d2 : Nat} {a3 : Option Addr} {k3 d3 : Nat} {ks vs : List ByteArray} {cs : List Int} (n : NodeR w h q a1 k1 d1 a2 k2 d2 a3 k3 d3 ks vs cs) (t : Turns (Mine h q) w w') : NodeR w' h q a1 k1 d1 a2 k2 d2 a3 k3 d3 ks vs cs :=
 ⟨n.e1, n.e2, n.e3, n.i1.mine t n.o1, n.i2.mine t n.o2, n.i3.mine t n.o3, n.o1, n.o2, n.o3⟩
theorem NodeR.below {w w' : World} {h q : Nat} {a1 : Option Addr} {k1 d1 : Nat} {a2 : Option Addr} {k2 d2 : Nat} {a3 : Option Addr} {k3 d3 : Nat} {ks vs : List ByteArray} {cs : List Int} (n : NodeR w h q a1 k1 d1 a2 k2 d2 a3 k3 d3 ks vs cs) (hb : Below w.heap.size w w') : NodeR w' h q a1 k1 d1 a2 k2 d2 a3 k3 d3 ks vs cs := n.mine (Turns.of_below hb)
theorem write_at (h q cp : Nat) (a : Option Addr) (c : Nat) (a' : Option Addr) (c' : Nat) (G : WoodS) (i : Nat) (l : Bool) (a1 : Option Addr) (k1 d1 : Nat) (a2 : Option Addr) (k2 d2 : Nat) (a3 : Option Addr) (k3 d3 : Nat) (ks vs : List ByteArray) (cs : List Int) (w : World) (GA : GrowAt w h q cp a c a' c' G) (hi : i < G.pages.length) (N : NodeR w h q a1 k1 d1 a2 k2 d2 a3 k3 d3 ks vs cs) :
  Calls Tryz.prog 84 #[.pointer (some ⟨h, 0, none⟩), .int .i64 i, .agg #[.bool l, .slice a1 k1 d1, .slice a2 k2 d2, .slice a3 k3 d3]] w fun e w' => e = .returned (.int .i64 (writeG G i (l, ks, vs, cs)).1) ∧ GrowAt w' h q cp a c a' c' (writeG G i (l, ks, vs, cs)).2 ∧ Turns (Mine h q) w w' :=
 write_any h q cp a c a' c' G i l a1 k1 d1 a2 k2 d2 a3 k3 d3 ks vs cs w GA hi N.e1 N.e2 N.e3 N.i1 N.i2 N.i3
set_option maxRecDepth 20000 in
set_option maxHeartbeats 4000000 in
theorem lay_any (h q cp : Nat) (a : Option Addr) (c : Nat) (a' : Option Addr) (c' : Nat) (G : WoodS) (l : Bool) (a1 : Option Addr) (k1 d1 : Nat) (a2 : Option Addr) (k2 d2 : Nat) (a3 : Option Addr) (k3 d3 : Nat) (ks vs : List ByteArray) (cs : List Int) (w : World) (GA : GrowAt w h q cp a c a' c' G) (hp : rightA G.base G.now = true → G.pages.length = G.now.length) (N : NodeR w h q a1 k1 d1 a2 k2 d2 a3 k3 d3 ks vs cs) :
  Calls Tryz.prog 67 #[.pointer (some ⟨h, 0, none⟩), .agg #[.bool l, .slice a1 k1 d1, .slice a2 k2 d2, .slice a3 k3 d3]] w fun e w' => ∃ b1 e1 b2 e2, e = .returned (.tuple #[.int .i64 (layG G (l, ks, vs, cs)).1, .int .i64 (layG G (l, ks, vs, cs)).2.1]) ∧ GrowAt w' h q cp b1 e1 b2 e2 (layG G (l, ks, vs, cs)).2.2 ∧ (Newer w a b1 ∧ Newer w a' b2) ∧ Turns (Mine h q) w w' := by
 obtain ⟨W, hW⟩ : ∃ W, W = w.alloc (.cells #[.bool l, .slice a1 k1 d1, .slice a2 k2 d2, .slice a3 k3 d3] 76) := ⟨_, rfl⟩
 have BN : Box4 W w.heap.size (.bool l) (.slice a1 k1 d1) (.slice a2 k2 d2) (.slice a3 k3 d3) := by rw [hW]; exact box4_new _ _ _ _ _ _ rfl
 have HB : Below w.heap.size w W := by rw [hW]; exact (Below.refl _ _).alloc (Nat.le_refl _) _
 have hh : h < w.heap.size := GA.lt
 have hqq : q < w.heap.size := GA.pg.lt
 replace GA := GA.below HB
 replace N := N.below HB
 have TT : Turns (Mine h q) w W := Turns.of_below HB
 have hWs : w.heap.size < W.heap.size := by rw [hW]; simp
 have cT := allocTake_any a a' c c' G.base.length G.now.length G.base G.now W rfl rfl GA.bs GA.ns
 obtain ⟨⟨q0, q1, q2, q3⟩, -⟩ := id (hW ▸ BN)
 obtain ⟨x0, x1, x2, x3, x4⟩ := id (hW ▸ GA.box)
 by_cases hE : takeE G.base G.now = 0
 ·
  have hr : rightA G.base G.now = true := by
   unfold takeE at hE
   split at hE
   ·
    assumption
   ·
    cases hE
  have hl := ((rightA_iff _ _).1 hr).1
  obtain ⟨p, hp1, hp2⟩ : ∃ p : Nat, takeK G.base G.now = p ∧ p < G.pages.length := by
   rcases takeP_spec hl with ⟨e, -⟩ | ⟨p, e, hpl, -, -⟩
   ·
    unfold takeE at hE; rw [if_pos hr, if_pos e] at hE; cases hE
   ·
    exact ⟨p, by unfold takeK; rw [if_pos hE, e], by rw [hp hr]; exact hpl⟩
  have eL : layG G (l, ks, vs, cs) = ((p : Int), writeG (G.withAlloc (takeB G.base G.now) (takeNow G.base G.now)) p (l, ks, vs, cs)) := by unfold layG; rw [if_pos hE, hp1]
  rw [eL]
  rw [hE, hp1] at cT
  generalize takeB G.base G.now = B1 at *
  generalize takeNow G.base G.now = N1 at *
  obtain ⟨⟨wE, wG⟩, hwr⟩ : ∃ x, x = writeG (G.withAlloc B1 N1) p (l, ks, vs, cs) := ⟨_, rfl⟩
  have cW : ∀ V {d : Option Addr} {e : Nat} {d' : Option Addr} {e' : Nat}, GrowAt V h q cp d e d' e' (G.withAlloc B1 N1) → NodeR V h q a1 k1 d1 a2 k2 d2 a3 k3 d3 ks vs cs → Calls Tryz.prog 84 #[.pointer (some ⟨h, 0, none⟩), .int .i64 p, .agg #[.bool l, .slice a1 k1 d1, .slice a2 k2 d2, .slice a3 k3 d3]] V fun x w' => x = .returned (.int .i64 wE) ∧ GrowAt w' h q cp d e d' e' wG ∧ Turns (Mine h q) V w' := fun V d e d' e' g n => by
   have := write_at h q cp d e d' e' (G.withAlloc B1 N1) p l a1 k1 d1 a2 k2 d2 a3 k3 d3 ks vs cs V g hp2 n
   rw [← hwr] at this
   exact this
  rw [← hwr]
  clear hE hr hl hp hp1 hp2 eL hwr
  go_enter Tryz.func67, Tryz.ntmps67
  go_wp2_with (first
   | (go_at_call 83; rw [← hW]; refine cT.mono ?_; rintro y w1 ⟨b1, e1, b2, e2, rfl, o1, o2, hb⟩; have hA : Below w1.heap.size w1 (w1.alloc (.cells #[.slice b1 B1.length e1, .slice b2 N1.length e2] 24)) := (Below.refl _ _).alloc (Nat.le_refl _) _; have BA := box2_new w1 (.slice b1 B1.length e1) (.slice b2 N1.length e2) 24 rfl; replace GA := (GA.below hb).below hA; replace N := (N.below hb).below hA; replace BN := (BN.below hb).below hA; replace TT := Turns.tr (Turns.tr TT hb) hA; obtain ⟨GA3, T3⟩ := GA.alloc2 (o1.isB.below hA) (o2.isB.below hA) (o1.from.off2 (by omega) (by omega)) (o2.from.off2 (by omega) (by omega)) (o1.held.mono hA.size) (o2.held.mono hA.size); have NW : Hid (Newer w a b1 ∧ Newer w a' b2) := ⟨.inr (o1.from.mono (by omega)), .inr (o2.from.mono (by omega))⟩; have N3 := N.mine T3; have f0 := GA.f0; have f1 := GA.f1; replace BN := BN.turns T3 (by show ¬ Mine h q w.heap.size; unfold Mine; omega); clear q0 q1 q2 q3 x0 x1 x2 x3 x4; obtain ⟨⟨q0, q1, q2, q3⟩, -⟩ := id BN; obtain ⟨x0, x1, x2, x3, x4⟩ := id GA.box; obtain ⟨⟨y0, y1⟩, -⟩ := id BA; clear hb hA cT)
   | (go_at_call 84; refine (cW _ GA3 N3).mono ?_; rintro y w2 ⟨rfl, GA4, T4⟩; clear q0 q1 q2 q3 x0 x1 x2 x3 x4 y0 y1 f0 f1))
  go_ret2
  exact ⟨_, _, _, _, rfl, GA4, NW.out, (TT.trans T3).trans T4⟩
 ·
  have eL : layG G (l, ks, vs, cs) = (0, takeE G.base G.now, G) := by unfold layG; rw [if_neg hE]
  rw [eL]
  have hE' : (takeE G.base G.now == 0) = false := by simpa using hE
  generalize takeE G.base G.now = E at *
  clear hE hp eL
  go_enter Tryz.func67, Tryz.ntmps67
  go_wp2_with (
   (go_at_call 83; rw [← hW]; refine cT.mono ?_; rintro y w1 ⟨b1, e1, b2, e2, rfl, o1, o2, hb⟩; have hA : Below w1.heap.size w1 (w1.alloc (.cells #[.slice b1 (takeB G.base G.now).length e1, .slice b2 (takeNow G.base G.now).length e2] 24)) := (Below.refl _ _).alloc (Nat.le_refl _) _; replace GA := (GA.below hb).below hA; replace TT := Turns.tr (Turns.tr TT hb) hA; clear q0 q1 q2 q3 x0 x1 x2 x3 x4 hb hA cT))
  go_ret2
  exact ⟨_, _, _, _, rfl, GA, ⟨newer_refl _ _, newer_refl _ _⟩, TT⟩
theorem give_room {G : WoodS} {xs : List Int} (hp : rightA G.base G.now = true → G.pages.length = G.now.length) (h : rightA (giveB G.base G.now xs) (giveN G.base G.now xs) = true) : G.pages.length = (giveN G.base G.now xs).length := by
 by_cases hE : giveE G.base G.now xs = 0
 ·
  have hr : rightA G.base G.now = true := by
   unfold giveE at hE
   split at hE
   ·
    assumption
   ·
    cases hE
  unfold giveN
  rw [if_pos hE, hp hr]
  cases hg : giveR G.now xs with
  | none => unfold giveE at hE; rw [if_pos hr, hg] at hE; simp at hE
  | some m => exact (giveR_length hg).symm
 ·
  have e1 : giveB G.base G.now xs = [] := by unfold giveB; rw [if_neg hE]
  have e2 : giveN G.base G.now xs = [] := by unfold giveN; rw [if_neg hE]
  rw [e1, e2] at h
  exact absurd h (by decide)
set_option maxRecDepth 20000 in
set_option maxHeartbeats 4000000 in
theorem renew_any (h q cp : Nat) (a : Option Addr) (c : Nat) (a' : Option Addr) (c' : Nat) (G : WoodS) (i : Nat) (l : Bool) (a1 : Option Addr) (k1 d1 : Nat) (a2 : Option Addr) (k2 d2 : Nat) (a3 : Option Addr) (k3 d3 : Nat) (ks vs : List ByteArray) (cs : List Int) (w : World) (GA : GrowAt w h q cp a c a' c' G) (hi : i < G.base.length) (hip : i < G.pages.length) (hp : rightA G.base G.now = true → G.pages.length = G.now.length) (N : NodeR w h q a1 k1 d1 a2 k2 d2 a3 k3 d3 ks vs cs) :
  Calls Tryz.prog 86 #[.pointer (some ⟨h, 0, none⟩), .int .i64 i, .agg #[.bool l, .slice a1 k1 d1, .slice a2 k2 d2, .slice a3 k3 d3]] w fun e w' => ∃ b1 e1 b2 e2, e = .returned (.tuple #[.int .i64 (renewG G i (l, ks, vs, cs)).1, .int .i64 (renewG G i (l, ks, vs, cs)).2.1]) ∧ GrowAt w' h q cp b1 e1 b2 e2 (renewG G i (l, ks, vs, cs)).2.2 ∧ (Newer w a b1 ∧ Newer w a' b2) ∧ Turns (Mine h q) w w' := by
 obtain ⟨W, hW⟩ : ∃ W, W = w.alloc (.cells #[.bool l, .slice a1 k1 d1, .slice a2 k2 d2, .slice a3 k3 d3] 76) := ⟨_, rfl⟩
 have BN : Box4 W w.heap.size (.bool l) (.slice a1 k1 d1) (.slice a2 k2 d2) (.slice a3 k3 d3) := by rw [hW]; exact box4_new _ _ _ _ _ _ rfl
 have HB : Below w.heap.size w W := by rw [hW]; exact (Below.refl _ _).alloc (Nat.le_refl _) _
 have hh : h < w.heap.size := GA.lt
 have hqq : q < w.heap.size := GA.pg.lt
 replace GA := GA.below HB
 replace N := N.below HB
 have TT : Turns (Mine h q) w W := Turns.of_below HB
 have hWs : w.heap.size < W.heap.size := by rw [hW]; simp
 have mb : G.base.length ≤ 9223372036854775807 := Nat.le_trans GA.bs.1 GA.bs.2.1
 have hlt : (i : Int) < G.base.length := by omega
 obtain ⟨⟨q0, q1, q2, q3⟩, -⟩ := id (hW ▸ BN)
 obtain ⟨x0, x1, x2, x3, x4⟩ := id (hW ▸ GA.box)
 obtain ⟨b, hbb⟩ : ∃ b, G.base[i]? = some b := ⟨_, List.getElem?_eq_getElem hi⟩
 have hat : atB G.base i = b := atB_some hbb
 obtain ⟨bb, oo, rfl, hbl, hc0⟩ := GA.bs.2.2 i b hbb
 have hc := hW ▸ hc0
 cases b with
 | false =>
  have eR : renewG G i (l, ks, vs, cs) = ((i : Int), writeG G i (l, ks, vs, cs)) := by unfold renewG; rw [Int.toNat_natCast, if_pos hat]
  rw [eR]
  obtain ⟨⟨wE, wG⟩, hwr⟩ : ∃ x, x = writeG G i (l, ks, vs, cs) := ⟨_, rfl⟩
  have cW := write_at h q cp _ c a' c' G i l a1 k1 d1 a2 k2 d2 a3 k3 d3 ks vs cs W GA hip N
  rw [← hwr] at cW ⊢
  clear eR hwr hp hbb hat hip
  go_enter Tryz.func86, Tryz.ntmps86
  go_wp2_with (go_at_call 84; rw [← hW]; refine cW.mono ?_; rintro y w2 ⟨rfl, GA4, T4⟩; clear q0 q1 q2 q3 x0 x1 x2 x3 x4)
  go_ret2
  exact ⟨_, _, _, _, rfl, GA4, ⟨newer_refl _ _, newer_refl _ _⟩, TT.trans T4⟩
 | true =>
  have eR : renewG G i (l, ks, vs, cs) = layG (G.withAlloc (giveB G.base G.now [(i : Int)]) (giveN G.base G.now [(i : Int)])) (l, ks, vs, cs) := by unfold renewG; rw [Int.toNat_natCast, if_neg (by rw [hat]; decide)]
  rw [eR]
  have hroom := fun h => give_room (xs := [(i : Int)]) hp h
  have hA1 : Below W.heap.size W (W.alloc (.cells #[.int .i64 i] 3)) := (Below.refl _ _).alloc (Nat.le_refl _) _
  have cG := allocGive_any (some ⟨bb, oo, none⟩) a' (some ⟨W.heap.size, 0, none⟩) c c' 1 G.base.length G.now.length 1 G.base G.now [(i : Int)] (W.alloc (.cells #[.int .i64 i] 3)) rfl rfl rfl (GA.bs.below hA1) (GA.ns.below hA1) (isI_one W i)
  generalize giveB G.base G.now [(i : Int)] = B1 at *
  generalize giveN G.base G.now [(i : Int)] = N1 at *
  generalize giveE G.base G.now [(i : Int)] = E1 at *
  obtain ⟨⟨lk, lE, lG⟩, hlr⟩ : ∃ x, x = layG (G.withAlloc B1 N1) (l, ks, vs, cs) := ⟨_, rfl⟩
  have cL : ∀ V {d : Option Addr} {e : Nat} {d' : Option Addr} {e' : Nat}, GrowAt V h q cp d e d' e' (G.withAlloc B1 N1) → NodeR V h q a1 k1 d1 a2 k2 d2 a3 k3 d3 ks vs cs → Calls Tryz.prog 67 #[.pointer (some ⟨h, 0, none⟩), .agg #[.bool l, .slice a1 k1 d1, .slice a2 k2 d2, .slice a3 k3 d3]] V fun x w' => ∃ b1 e1 b2 e2, x = .returned (.tuple #[.int .i64 lk, .int .i64 lE]) ∧ GrowAt w' h q cp b1 e1 b2 e2 lG ∧ (Newer V d b1 ∧ Newer V d' b2) ∧ Turns (Mine h q) V w' := fun V d e d' e' g n => by
   have := lay_any h q cp d e d' e' (G.withAlloc B1 N1) l a1 k1 d1 a2 k2 d2 a3 k3 d3 ks vs cs V g (fun hr => hroom hr) n
   rw [← hlr] at this
   exact this
  rw [← hlr]
  have hsz : W.heap.size = w.heap.size + 1 := by rw [hW]; simp
  rw [hsz] at cG
  clear eR hlr hp hbb hat hip hroom
  go_enter Tryz.func86, Tryz.ntmps86
  go_wp2_with (first
   | (go_at_call 104; rw [← hW]; refine cG.mono ?_; rintro y w1 ⟨b1, e1, b2, e2, rfl, o1, o2, hb⟩; replace GA := (GA.below hA1).below hb; replace N := (N.below hA1).below hb; replace BN := (BN.below hA1).below hb; replace TT := Turns.tr (Turns.tr TT hA1) hb; have hs1 : w.heap.size < (W.alloc (.cells #[.int .i64 i] 3)).heap.size := (by simp; omega); obtain ⟨GA3, T3⟩ := GA.alloc2 o1.isB o2.isB (o1.from.off2 (by omega) (by omega)) (o2.from.off2 (by omega) (by omega)) o1.held o2.held; have NW : Hid (Newer w (some ⟨bb, oo, none⟩) b1 ∧ Newer w a' b2) := ⟨.inr (o1.from.mono (by omega)), .inr (o2.from.mono (by omega))⟩; have hsT : w.heap.size ≤ w1.heap.size := TT.size; have N3 := N.mine T3; have f0 := GA.f0; have f1 := GA.f1; replace BN := BN.turns T3 (by show ¬ Mine h q w.heap.size; unfold Mine; omega); clear q0 q1 q2 q3 x0 x1 x2 x3 x4; obtain ⟨⟨q0, q1, q2, q3⟩, -⟩ := id BN; obtain ⟨x0, x1, x2, x3, x4⟩ := id GA.box; clear hb hA1 cG)
   | (go_at_call 67; refine (cL _ GA3 N3).mono ?_; rintro y w2 ⟨c1, f1', c2, f2', rfl, GA4, ⟨v1, v2⟩, T4⟩; clear q0 q1 q2 q3 x0 x1 x2 x3 x4 f0 f1))
  go_ret2
  exact ⟨_, _, _, _, rfl, GA4, ⟨NW.out.1.trans v1 (TT.trans T3).size, NW.out.2.trans v2 (TT.trans T3).size⟩, (TT.trans T3).trans T4⟩
set_option maxRecDepth 20000 in
set_option maxHeartbeats 4000000 in
theorem plant_any (h q cp : Nat) (a : Option Addr) (c : Nat) (a' : Option Addr) (c' : Nat) (G : WoodS) (l : Bool) (a1 : Option Addr) (k1 d1 : Nat) (a2 : Option Addr) (k2 d2 : Nat) (a3 : Option Addr) (k3 d3 : Nat) (ks vs : List ByteArray) (cs : List Int) (w : World) (GA : GrowAt w h q cp a c a' c' G) (hp : rightA G.base G.now = true → G.pages.length = G.now.length) (N : NodeR w h q a1 k1 d1 a2 k2 d2 a3 k3 d3 ks vs cs) :
  Calls Tryz.prog 53 #[.pointer (some ⟨h, 0, none⟩), .agg #[.bool l, .slice a1 k1 d1, .slice a2 k2 d2, .slice a3 k3 d3]] w fun e w' => ∃ b1 e1 b2 e2, e = .returned (.int .i64 (plantG G (l, ks, vs, cs)).1) ∧ GrowAt w' h q cp b1 e1 b2 e2 (plantG G (l, ks, vs, cs)).2 ∧ (Newer w a b1 ∧ Newer w a' b2) ∧ Turns (Mine h q) w w' := by
 obtain ⟨W, hW⟩ : ∃ W, W = w.alloc (.cells #[.bool l, .slice a1 k1 d1, .slice a2 k2 d2, .slice a3 k3 d3] 76) := ⟨_, rfl⟩
 have BN : Box4 W w.heap.size (.bool l) (.slice a1 k1 d1) (.slice a2 k2 d2) (.slice a3 k3 d3) := by rw [hW]; exact box4_new _ _ _ _ _ _ rfl
 have HB : Below w.heap.size w W := by rw [hW]; exact (Below.refl _ _).alloc (Nat.le_refl _) _
 replace GA := GA.below HB
 replace N := N.below HB
 have TT : Turns (Mine h q) w W := Turns.of_below HB
 obtain ⟨⟨q0, q1, q2, q3⟩, -⟩ := id (hW ▸ BN)
 have cL := lay_any h q cp a c a' c' G l a1 k1 d1 a2 k2 d2 a3 k3 d3 ks vs cs W GA hp N
 unfold plantG
 obtain ⟨⟨lk, lE, lG⟩, hlr⟩ : ∃ x, x = layG G (l, ks, vs, cs) := ⟨_, rfl⟩
 rw [← hlr] at cL ⊢
 clear hlr hp
 go_enter Tryz.func53, Tryz.ntmps53
 go_wp2_with (go_at_call 67; rw [← hW]; refine cL.mono ?_; rintro y w2 ⟨c1, e1, c2, e2, rfl, GA4, ⟨v1, v2⟩, T4⟩; obtain ⟨x0, x1, x2, x3, x4⟩ := id GA4.box; have f3 := GA4.f3; clear q0 q1 q2 q3)
 go_ret
 exact ⟨_, _, _, _, rfl, (GA4.setRoot lk).1, ⟨v1.low TT.size, v2.low TT.size⟩, (TT.trans T4).trans (GA4.setRoot lk).2⟩
def ReplC (w : World) (x : Ending) (w' : World) (h q cp : Nat) (a a' : Option Addr) (R : Int × (List ByteArray × List Int) × WoodS) : Prop :=
 ∃ b1 e1 b2 e2 ak kk dk ac kc dc, x = .returned (.tuple #[.agg #[.bool false, .slice ak kk dk, .slice none 0 0, .slice ac kc dc], .int .i64 R.1]) ∧ kk = R.2.1.1.length ∧ kc = R.2.1.2.length ∧ IsS w' ak dk R.2.1.1 ∧ IsI w' ac dc R.2.1.2 ∧ From w.heap.size ak ∧ From w.heap.size ac ∧ GrowAt w' h q cp b1 e1 b2 e2 R.2.2 ∧ (Newer w a b1 ∧ Newer w a' b2) ∧ Turns (Mine h q) w w'
theorem write_room {G : WoodS} {block : Int} {n : NodeS} : (writeG G block n).2.base = G.base ∧ (writeG G block n).2.now = G.now ∧ (writeG G block n).2.pages.length = G.pages.length := by
 unfold writeG
 split
 ·
  exact ⟨rfl, rfl, List.length_set ..⟩
 ·
  exact ⟨rfl, rfl, rfl⟩
theorem lay_room {G : WoodS} {n : NodeS} (hp : rightA G.base G.now = true → G.pages.length = G.now.length) : rightA (layG G n).2.2.base (layG G n).2.2.now = true → (layG G n).2.2.pages.length = (layG G n).2.2.now.length := by
 unfold layG
 split
 ·
  rename_i hE
  obtain ⟨e1, e2, e3⟩ := write_room (G := G.withAlloc (takeB G.base G.now) (takeNow G.base G.now)) (block := takeK G.base G.now) (n := n)
  intro _
  rw [e3, e2]
  have hr : rightA G.base G.now = true := by
   unfold takeE at hE
   split at hE
   ·
    assumption
   ·
    cases hE
  show G.pages.length = (takeNow G.base G.now).length
  unfold takeNow
  rw [if_pos hE, List.length_set]
  exact hp hr
 ·
  exact hp
theorem renew_room {G : WoodS} {block : Int} {n : NodeS} (hp : rightA G.base G.now = true → G.pages.length = G.now.length) : rightA (renewG G block n).2.2.base (renewG G block n).2.2.now = true → (renewG G block n).2.2.pages.length = (renewG G block n).2.2.now.length := by
 unfold renewG
 split
 ·
  obtain ⟨e1, e2, e3⟩ := write_room (G := G) (block := block) (n := n)
  intro h
  rw [e3, e2]
  have h' : rightA (writeG G block n).2.base (writeG G block n).2.now = true := h
  rw [e1, e2] at h'
  exact hp h'
 ·
  exact lay_room fun h => give_room hp h
set_option maxRecDepth 20000 in
set_option maxHeartbeats 4000000 in
theorem replace_any (h q cp : Nat) (a : Option Addr) (c : Nat) (a' : Option Addr) (c' : Nat) (G : WoodS) (i : Nat) (l : Bool) (a1 : Option Addr) (k1 d1 : Nat) (a2 : Option Addr) (k2 d2 : Nat) (a3 : Option Addr) (k3 d3 : Nat) (ks vs : List ByteArray) (cs : List Int) (w : World) (GA : GrowAt w h q cp a c a' c' G) (hi : i < G.base.length) (hip : i < G.pages.length) (hp : rightA G.base G.now = true → G.pages.length = G.now.length) (N : NodeR w h q a1 k1 d1 a2 k2 d2 a3 k3 d3 ks vs cs) :
  Calls Tryz.prog 70 #[.pointer (some ⟨h, 0, none⟩), .int .i64 i, .agg #[.bool l, .slice a1 k1 d1, .slice a2 k2 d2, .slice a3 k3 d3]] w fun x w' => ReplC w x w' h q cp a a' (replaceG G i (l, ks, vs, cs)) := by
 obtain ⟨W, hW⟩ : ∃ W, W = (w.alloc (.cells #[.bool l, .slice a1 k1 d1, .slice a2 k2 d2, .slice a3 k3 d3] 76)).alloc (.cells #[.bool false, .slice none 0 0, .slice none 0 0, .slice none 0 0] 76) := ⟨_, rfl⟩
 have BN : Box4 W w.heap.size (.bool l) (.slice a1 k1 d1) (.slice a2 k2 d2) (.slice a3 k3 d3) := by rw [hW]; exact (box4_new _ _ _ _ _ _ rfl).alloc _
 have BR : Box4 W (w.heap.size + 1) (.bool false) (.slice none 0 0) (.slice none 0 0) (.slice none 0 0) := by rw [hW]; exact box4_new _ _ _ _ _ _ (by simp)
 have HB : Below w.heap.size w W := by rw [hW]; exact ((Below.refl _ _).alloc (Nat.le_refl _) _).alloc (by simp) _
 have hh : h < w.heap.size := GA.lt
 have hqq : q < w.heap.size := GA.pg.lt
 have LB := GA.lb
 have LN := GA.ln
 replace GA := GA.below HB
 replace N := N.below HB
 have TT : Turns (Mine h q) w W := Turns.of_below HB
 have hWs : W.heap.size = w.heap.size + 2 := by rw [hW]; simp
 have offN : ¬ Mine h q w.heap.size := by unfold Mine; omega
 have offR : ¬ Mine h q (w.heap.size + 1) := by unfold Mine; omega
 obtain ⟨⟨q0, q1, q2, q3⟩, -⟩ := id (hW ▸ BN)
 have m1 : k1 ≤ 9223372036854775807 := by rw [N.e1]; exact Nat.le_trans N.i1.1 N.i1.2.1
 by_cases h8 : ks.length ≤ 8
 ·
  have h8' : (k1 : Int) ≤ 8 := by rw [N.e1]; omega
  have cR := renew_any h q cp a c a' c' G i l a1 k1 d1 a2 k2 d2 a3 k3 d3 ks vs cs W GA hi hip hp N
  have eR : replaceG G i (l, ks, vs, cs) = ((renewG G i (l, ks, vs, cs)).2.1, ([], [(renewG G i (l, ks, vs, cs)).1]), (renewG G i (l, ks, vs, cs)).2.2) := by unfold replaceG; rw [if_pos h8]
  rw [eR]
  obtain ⟨⟨rk, rE, rG⟩, hrr⟩ : ∃ x, x = renewG G i (l, ks, vs, cs) := ⟨_, rfl⟩
  rw [← hrr] at cR ⊢
  clear hrr eR hp h8 hi hip N
  go_enter Tryz.func70, Tryz.ntmps70
  go_wp2_with (go_at_call 86; rw [← hW]; refine cR.mono ?_; rintro y w1 ⟨b1, e1, b2, e2, rfl, GA4, ⟨v1, v2⟩, T4⟩; have hA : Below w1.heap.size w1 (w1.alloc (.cells #[.int .i64 rk] 3)) := (Below.refl _ _).alloc (Nat.le_refl _) _; replace BR := (BR.turns T4 offR).below hA; obtain ⟨⟨r0, r1, r2, r3⟩, g0, g1, g2, g3⟩ := id BR; have II := isI_one w1 rk; have hs4 := T4.size; clear q0 q1 q2 q3)
  have T5 := turns_put4 (w1.alloc (.cells #[.int .i64 rk] 3)) (w.heap.size + 1) (.bool false) (.slice none 0 0) (.slice none 0 0) (.slice (some ⟨w1.heap.size, 0, none⟩) 1 1)
  refine bodyPost_ret (v := .tuple #[.agg #[.bool false, .slice none 0 0, .slice none 0 0, .slice (some ⟨w1.heap.size, 0, none⟩) 1 1], .int .i64 rE]) (by simp [results, Tryz.results70, go_sem, r0, r1, r2, r3]) rfl ?_
  exact ⟨b1, e1, b2, e2, none, 0, 0, some ⟨w1.heap.size, 0, none⟩, 1, 1, rfl, rfl, rfl, isS_nil _, II.turns T5 (fun x hx e => by cases hx; have e' : w1.heap.size = w.heap.size + 1 := e; omega), from_nil _, fun x hx => by cases hx; show w.heap.size ≤ w1.heap.size; omega, (GA4.below hA).turns T5 (by omega) (by omega) (v1.off LB (by omega) (by omega)) (v2.off LN (by omega) (by omega)), ⟨v1.low TT.size, v2.low TT.size⟩, ((TT.trans T4).tr hA).own T5 (fun k hk e => by omega)⟩
 ·
  have h8' : ¬ (k1 : Int) ≤ 8 := by rw [N.e1]; omega
  have cC := nodeCutF_any l a1 a2 a3 d1 d2 d3 k1 k2 k3 ks vs cs W N.e1 N.e2 N.e3 N.i1 N.i2 N.i3
  by_cases hok : cutNOk (l, ks, vs, cs) = true
  ·
   have hE : cutEr l ks vs cs = 0 := by unfold cutEr; rw [if_pos (show cutOk l ks vs cs = true from hok)]
   have eA : cutNA (l, ks, vs, cs) = (cutL l ks vs cs, cutAK l ks vs cs, cutAV l ks vs cs, cutAC l ks vs cs) := rfl
   have eB : cutNB (l, ks, vs, cs) = (cutL l ks vs cs, cutBK l ks vs cs, cutBV l ks vs cs, cutBC l ks vs cs) := rfl
   have eM : cutNM (l, ks, vs, cs) = cutM l ks vs cs := rfl
   have mM : (cutM l ks vs cs).size ≤ maxLen := by
    have h1 := (cut_parts hok).2.2
    rw [eM] at h1
    obtain ⟨_, _, _, _, _, hs⟩ := N.i1.2.2 4 _ h1
    exact hs
   have eR : replaceG G i (l, ks, vs, cs) = if (renewG G i (cutNA (l, ks, vs, cs))).2.1 = 0 then ((layG (renewG G i (cutNA (l, ks, vs, cs))).2.2 (cutNB (l, ks, vs, cs))).2.1, ([cutNM (l, ks, vs, cs)], [(renewG G i (cutNA (l, ks, vs, cs))).1, (layG (renewG G i (cutNA (l, ks, vs, cs))).2.2 (cutNB (l, ks, vs, cs))).1]), (layG (renewG G i (cutNA (l, ks, vs, cs))).2.2 (cutNB (l, ks, vs, cs))).2.2) else ((renewG G i (cutNA (l, ks, vs, cs))).2.1, ([], []), (renewG G i (cutNA (l, ks, vs, cs))).2.2) := by unfold replaceG; rw [if_neg h8, if_pos hok]
   rw [eR, eA, eB, eM]
   rw [hE] at cC
   clear hE eA eB eM eR hok h8
   generalize cutL l ks vs cs = la at *
   generalize cutAK l ks vs cs = AK at *
   generalize cutAV l ks vs cs = AV at *
   generalize cutAC l ks vs cs = AC at *
   generalize cutBK l ks vs cs = BK at *
   generalize cutBV l ks vs cs = BV at *
   generalize cutBC l ks vs cs = BC at *
   generalize cutM l ks vs cs = mid at *
   obtain ⟨⟨rk, rE, rG⟩, hrr⟩ : ∃ x, x = renewG G i (la, AK, AV, AC) := ⟨_, rfl⟩
   rw [← hrr]
   have cR : ∀ V {a1 : Option Addr} {k1 d1 : Nat} {a2 : Option Addr} {k2 d2 : Nat} {a3 : Option Addr} {k3 d3 : Nat}, GrowAt V h q cp a c a' c' G → NodeR V h q a1 k1 d1 a2 k2 d2 a3 k3 d3 AK AV AC → Calls Tryz.prog 86 #[.pointer (some ⟨h, 0, none⟩), .int .i64 i, .agg #[.bool la, .slice a1 k1 d1, .slice a2 k2 d2, .slice a3 k3 d3]] V fun x w' => ∃ b1 e1 b2 e2, x = .returned (.tuple #[.int .i64 rk, .int .i64 rE]) ∧ GrowAt w' h q cp b1 e1 b2 e2 rG ∧ (Newer V a b1 ∧ Newer V a' b2) ∧ Turns (Mine h q) V w' := fun V a1 k1 d1 a2 k2 d2 a3 k3 d3 g n => by
    have := renew_any h q cp a c a' c' G i la a1 k1 d1 a2 k2 d2 a3 k3 d3 AK AV AC V g hi hip hp n
    rw [← hrr] at this
    exact this
   have hp2 : rightA rG.base rG.now = true → rG.pages.length = rG.now.length := by
    have := renew_room (n := (la, AK, AV, AC)) (block := (i : Int)) hp
    rw [← hrr] at this
    exact this
   obtain ⟨⟨lk, lE, lG⟩, hlr⟩ : ∃ x, x = layG rG (la, BK, BV, BC) := ⟨_, rfl⟩
   have cL : ∀ V {d : Option Addr} {e : Nat} {d' : Option Addr} {e' : Nat} {a1 : Option Addr} {k1 d1 : Nat} {a2 : Option Addr} {k2 d2 : Nat} {a3 : Option Addr} {k3 d3 : Nat}, GrowAt V h q cp d e d' e' rG → NodeR V h q a1 k1 d1 a2 k2 d2 a3 k3 d3 BK BV BC → Calls Tryz.prog 67 #[.pointer (some ⟨h, 0, none⟩), .agg #[.bool la, .slice a1 k1 d1, .slice a2 k2 d2, .slice a3 k3 d3]] V fun x w' => ∃ b1 e1 b2 e2, x = .returned (.tuple #[.int .i64 lk, .int .i64 lE]) ∧ GrowAt w' h q cp b1 e1 b2 e2 lG ∧ (Newer V d b1 ∧ Newer V d' b2) ∧ Turns (Mine h q) V w' := fun V d e d' e' a1 k1 d1 a2 k2 d2 a3 k3 d3 g n => by
    have := lay_any h q cp d e d' e' rG la a1 k1 d1 a2 k2 d2 a3 k3 d3 BK BV BC V g hp2 n
    rw [← hlr] at this
    exact this
   rw [← hlr]
   clear hrr hlr hp hp2 hi hip N
   by_cases hE0 : rE = 0
   ·
    subst hE0
    simp only [if_true]
    go_enter Tryz.func70, Tryz.ntmps70
    go_wp2_with (first
     | (go_at_call 87; rw [← hW]; refine cC.mono ?_; rintro y w1 ⟨n1, u1, s1, n2, u2, s2, n3, u3, s3, m1, p1, t1, m2, p2, t2, m3, p3, t3, rfl, e1, e2, e3, e4, e5, e6, i1, i2, i3, i4, i5, i6, ⟨o1, o2, o3, o4, o5, o6⟩, hb⟩; have hA : Below w1.heap.size w1 (w1.alloc (.cells #[.bool la, .slice u1 n1 s1, .slice u2 n2 s2, .slice u3 n3 s3] 76)) := (Below.refl _ _).alloc (Nat.le_refl _) _; have hA' : Below (w1.alloc (.cells #[.bool la, .slice u1 n1 s1, .slice u2 n2 s2, .slice u3 n3 s3] 76)).heap.size (w1.alloc (.cells #[.bool la, .slice u1 n1 s1, .slice u2 n2 s2, .slice u3 n3 s3] 76)) ((w1.alloc (.cells #[.bool la, .slice u1 n1 s1, .slice u2 n2 s2, .slice u3 n3 s3] 76)).alloc (.cells #[.bool la, .slice p1 m1 t1, .slice p2 m2 t2, .slice p3 m3 t3] 76)) := (Below.refl _ _).alloc (Nat.le_refl _) _; have NA : Hid (NodeR ((w1.alloc (.cells #[.bool la, .slice u1 n1 s1, .slice u2 n2 s2, .slice u3 n3 s3] 76)).alloc (.cells #[.bool la, .slice p1 m1 t1, .slice p2 m2 t2, .slice p3 m3 t3] 76)) h q u1 n1 s1 u2 n2 s2 u3 n3 s3 AK AV AC) := ⟨e1, e2, e3, (i1.below hA).below hA', (i2.below hA).below hA', (i3.below hA).below hA', o1.off2 (by omega) (by omega), o2.off2 (by omega) (by omega), o3.off2 (by omega) (by omega)⟩; have NB : Hid (NodeR ((w1.alloc (.cells #[.bool la, .slice u1 n1 s1, .slice u2 n2 s2, .slice u3 n3 s3] 76)).alloc (.cells #[.bool la, .slice p1 m1 t1, .slice p2 m2 t2, .slice p3 m3 t3] 76)) h q p1 m1 t1 p2 m2 t2 p3 m3 t3 BK BV BC) := ⟨e4, e5, e6, (i4.below hA).below hA', (i5.below hA).below hA', (i6.below hA).below hA', o4.off2 (by omega) (by omega), o5.off2 (by omega) (by omega), o6.off2 (by omega) (by omega)⟩; have hs1 : W.heap.size ≤ w1.heap.size := hb.size; replace GA := ((GA.below hb).below hA).below hA'; replace TT := ((TT.tr hb).tr hA).tr hA'; replace BR := ((BR.below hb).below hA).below hA'; have BA := (box4_new w1 (.bool la) (.slice u1 n1 s1) (.slice u2 n2 s2) (.slice u3 n3 s3) 76 rfl).below hA'; have BB := box4_new (w1.alloc (.cells #[.bool la, .slice u1 n1 s1, .slice u2 n2 s2, .slice u3 n3 s3] 76)) (.bool la) (.slice p1 m1 t1) (.slice p2 m2 t2) (.slice p3 m3 t3) 76 rfl; have hzA : (w1.alloc (.cells #[.bool la, .slice u1 n1 s1, .slice u2 n2 s2, .slice u3 n3 s3] 76)).heap.size = w1.heap.size + 1 := (by simp); rw [hzA] at BB; clear q0 q1 q2 q3 e1 e2 e3 e4 e5 e6 i1 i2 i3 i4 i5 i6 o1 o2 o3 o4 o5 o6 hb hA hA' hzA; obtain ⟨⟨q0, q1, q2, q3⟩, -⟩ := id BA; obtain ⟨⟨p0, p1', p2', p3'⟩, -⟩ := id BB)
     | (go_at_call 86; refine (cR _ GA NA.out).mono ?_; rintro y w2 ⟨b1, e1, b2, e2, rfl, GA2, ⟨v1, v2⟩, T4⟩; replace NB := NB.out.mine T4; replace NB : Hid _ := NB; replace BR := BR.turns T4 offR; replace BB := BB.turns T4 (by unfold Mine; omega); have hs2 := T4.size; clear GA; have GA := GA2; clear GA2; replace TT := TT.trans T4; have hs2' : W.heap.size ≤ w2.heap.size := (by simp at hs2; omega); replace v1 := v1.low (w := W) (by simp; omega); replace v2 := v2.low (w := W) (by simp; omega); clear q0 q1 q2 q3 p0 p1' p2' p3' NA; obtain ⟨⟨p0, p1', p2', p3'⟩, -⟩ := id BB; obtain ⟨⟨r0, r1, r2, r3⟩, g0, g1, g2, g3⟩ := id BR)
     | (go_at_call 67; refine (cL _ GA NB.out).mono ?_; rintro y w3 ⟨b3, e3, b4, e4, rfl, GA4, ⟨v3, v4⟩, T5⟩; have hB1 : Below w3.heap.size w3 (w3.alloc (.cells #[.string mid] 9)) := (Below.refl _ _).alloc (Nat.le_refl _) _; have hB2 : Below (w3.alloc (.cells #[.string mid] 9)).heap.size (w3.alloc (.cells #[.string mid] 9)) ((w3.alloc (.cells #[.string mid] 9)).alloc (.cells #[.int .i64 rk, .int .i64 lk] 3)) := (Below.refl _ _).alloc (Nat.le_refl _) _; replace BR := ((BR.turns T5 offR).below hB1).below hB2; have I1 := (isS_one w3 mid mM).below hB2; have I2 := isI_pair (w3.alloc (.cells #[.string mid] 9)) rk lk; replace TT := ((TT.trans T5).tr hB1).tr hB2; have hs5 := T5.size; replace GA4 := (GA4.below hB1).below hB2; clear p0 p1' p2' p3' r0 r1 r2 r3 g0 g1 g2 g3; obtain ⟨⟨r0, r1, r2, r3⟩, g0, g1, g2, g3⟩ := id BR))
    have T6 := turns_put4 ((w3.alloc (.cells #[.string mid] 9)).alloc (.cells #[.int .i64 rk, .int .i64 lk] 3)) (w.heap.size + 1) (.bool false) (.slice (some ⟨w3.heap.size, 0, none⟩) 1 1) (.slice none 0 0) (.slice (some ⟨w3.heap.size + 1, 0, none⟩) 2 2)
    refine bodyPost_ret (v := .tuple #[.agg #[.bool false, .slice (some ⟨w3.heap.size, 0, none⟩) 1 1, .slice none 0 0, .slice (some ⟨w3.heap.size + 1, 0, none⟩) 2 2], .int .i64 lE]) (by simp [results, Tryz.results70, go_sem, r0, r1, r2, r3]) rfl ?_
    have hz : (w3.alloc (.cells #[.string mid] 9)).heap.size = w3.heap.size + 1 := by simp
    rw [hz] at I2
    have n3 := v1.trans v3 hs2'
    have n4 := v2.trans v4 hs2'
    exact ⟨b3, e3, b4, e4, some ⟨w3.heap.size, 0, none⟩, 1, 1, some ⟨w3.heap.size + 1, 0, none⟩, 2, 2, rfl, rfl, rfl, I1.turns T6 (fun x hx e => by cases hx; have e' : w3.heap.size = w.heap.size + 1 := e; omega), I2.turns T6 (fun x hx e => by cases hx; have e' : w3.heap.size + 1 = w.heap.size + 1 := e; omega), fun x hx => by cases hx; show w.heap.size ≤ w3.heap.size; omega, fun x hx => by cases hx; show w.heap.size ≤ w3.heap.size + 1; omega, GA4.turns T6 (by omega) (by omega) (n3.off LB (by omega) (by omega)) (n4.off LN (by omega) (by omega)), ⟨n3.low (by omega), n4.low (by omega)⟩, TT.own T6 (fun k hk e => by omega)⟩
   ·
    rw [if_neg hE0]
    have hE0' : (rE == 0) = false := by simpa using hE0
    clear hE0 cL
    go_enter Tryz.func70, Tryz.ntmps70
    go_wp2_with (first
     | (go_at_call 87; rw [← hW]; refine cC.mono ?_; rintro y w1 ⟨n1, u1, s1, n2, u2, s2, n3, u3, s3, m1, p1, t1, m2, p2, t2, m3, p3, t3, rfl, e1, e2, e3, e4, e5, e6, i1, i2, i3, i4, i5, i6, ⟨o1, o2, o3, o4, o5, o6⟩, hb⟩; have hA : Below w1.heap.size w1 (w1.alloc (.cells #[.bool la, .slice u1 n1 s1, .slice u2 n2 s2, .slice u3 n3 s3] 76)) := (Below.refl _ _).alloc (Nat.le_refl _) _; have hA' : Below (w1.alloc (.cells #[.bool la, .slice u1 n1 s1, .slice u2 n2 s2, .slice u3 n3 s3] 76)).heap.size (w1.alloc (.cells #[.bool la, .slice u1 n1 s1, .slice u2 n2 s2, .slice u3 n3 s3] 76)) ((w1.alloc (.cells #[.bool la, .slice u1 n1 s1, .slice u2 n2 s2, .slice u3 n3 s3] 76)).alloc (.cells #[.bool la, .slice p1 m1 t1, .slice p2 m2 t2, .slice p3 m3 t3] 76)) := (Below.refl _ _).alloc (Nat.le_refl _) _; have NA : Hid (NodeR ((w1.alloc (.cells #[.bool la, .slice u1 n1 s1, .slice u2 n2 s2, .slice u3 n3 s3] 76)).alloc (.cells #[.bool la, .slice p1 m1 t1, .slice p2 m2 t2, .slice p3 m3 t3] 76)) h q u1 n1 s1 u2 n2 s2 u3 n3 s3 AK AV AC) := ⟨e1, e2, e3, (i1.below hA).below hA', (i2.below hA).below hA', (i3.below hA).below hA', o1.off2 (by omega) (by omega), o2.off2 (by omega) (by omega), o3.off2 (by omega) (by omega)⟩; have NB : Hid (NodeR ((w1.alloc (.cells #[.bool la, .slice u1 n1 s1, .slice u2 n2 s2, .slice u3 n3 s3] 76)).alloc (.cells #[.bool la, .slice p1 m1 t1, .slice p2 m2 t2, .slice p3 m3 t3] 76)) h q p1 m1 t1 p2 m2 t2 p3 m3 t3 BK BV BC) := ⟨e4, e5, e6, (i4.below hA).below hA', (i5.below hA).below hA', (i6.below hA).below hA', o4.off2 (by omega) (by omega), o5.off2 (by omega) (by omega), o6.off2 (by omega) (by omega)⟩; have hs1 : W.heap.size ≤ w1.heap.size := hb.size; replace GA := ((GA.below hb).below hA).below hA'; replace TT := ((TT.tr hb).tr hA).tr hA'; replace BR := ((BR.below hb).below hA).below hA'; have BA := (box4_new w1 (.bool la) (.slice u1 n1 s1) (.slice u2 n2 s2) (.slice u3 n3 s3) 76 rfl).below hA'; have BB := box4_new (w1.alloc (.cells #[.bool la, .slice u1 n1 s1, .slice u2 n2 s2, .slice u3 n3 s3] 76)) (.bool la) (.slice p1 m1 t1) (.slice p2 m2 t2) (.slice p3 m3 t3) 76 rfl; have hzA : (w1.alloc (.cells #[.bool la, .slice u1 n1 s1, .slice u2 n2 s2, .slice u3 n3 s3] 76)).heap.size = w1.heap.size + 1 := (by simp); rw [hzA] at BB; clear q0 q1 q2 q3 e1 e2 e3 e4 e5 e6 i1 i2 i3 i4 i5 i6 o1 o2 o3 o4 o5 o6 hb hA hA' hzA; obtain ⟨⟨q0, q1, q2, q3⟩, -⟩ := id BA; obtain ⟨⟨p0, p1', p2', p3'⟩, -⟩ := id BB)
     | (go_at_call 86; refine (cR _ GA NA.out).mono ?_; rintro y w2 ⟨b1, e1, b2, e2, rfl, GA2, ⟨v1, v2⟩, T4⟩; replace NB := NB.out.mine T4; replace NB : Hid _ := NB; replace BR := BR.turns T4 offR; replace BB := BB.turns T4 (by unfold Mine; omega); have hs2 := T4.size; clear GA; have GA := GA2; clear GA2; replace TT := TT.trans T4; have hs2' : W.heap.size ≤ w2.heap.size := (by simp at hs2; omega); replace v1 := v1.low (w := W) (by simp; omega); replace v2 := v2.low (w := W) (by simp; omega); clear q0 q1 q2 q3 p0 p1' p2' p3' NA; obtain ⟨⟨p0, p1', p2', p3'⟩, -⟩ := id BB; obtain ⟨⟨r0, r1, r2, r3⟩, g0, g1, g2, g3⟩ := id BR))
    have T6 := turns_put4 w2 (w.heap.size + 1) (.bool false) (.slice none 0 0) (.slice none 0 0) (.slice none 0 0)
    refine bodyPost_ret (v := .tuple #[.agg #[.bool false, .slice none 0 0, .slice none 0 0, .slice none 0 0], .int .i64 rE]) (by simp [results, Tryz.results70, go_sem, r0, r1, r2, r3]) rfl ?_
    exact ⟨b1, e1, b2, e2, none, 0, 0, none, 0, 0, rfl, rfl, rfl, isS_nil _, isI_nil _, from_nil _, from_nil _, GA.turns T6 (by omega) (by omega) (v1.off LB (by omega) (by omega)) (v2.off LN (by omega) (by omega)), ⟨v1.low (by omega), v2.low (by omega)⟩, TT.own T6 (fun k hk e => by omega)⟩
  ·
   have hE : cutEr l ks vs cs = 1 := by unfold cutEr; rw [if_neg (show ¬ cutOk l ks vs cs = true from hok)]
   have eR : replaceG G i (l, ks, vs, cs) = (81, ([], []), G) := by unfold replaceG; rw [if_neg h8, if_neg hok]
   rw [eR]
   rw [hE] at cC
   clear hE eR hok h8 hp hi hip N
   go_enter Tryz.func70, Tryz.ntmps70
   go_wp2_with (go_at_call 87; rw [← hW]; refine cC.mono ?_; rintro y w1 ⟨n1, u1, s1, n2, u2, s2, n3, u3, s3, m1, p1, t1, m2, p2, t2, m3, p3, t3, rfl, e1, e2, e3, e4, e5, e6, i1, i2, i3, i4, i5, i6, -, hb⟩; clear e1 e2 e3 e4 e5 e6 i1 i2 i3 i4 i5 i6; generalize cutL l ks vs cs = la at *; generalize cutM l ks vs cs = mid at *; have hA : Below w1.heap.size w1 (w1.alloc (.cells #[.bool la, .slice u1 n1 s1, .slice u2 n2 s2, .slice u3 n3 s3] 76)) := (Below.refl _ _).alloc (Nat.le_refl _) _; have hA' : Below (w1.alloc (.cells #[.bool la, .slice u1 n1 s1, .slice u2 n2 s2, .slice u3 n3 s3] 76)).heap.size (w1.alloc (.cells #[.bool la, .slice u1 n1 s1, .slice u2 n2 s2, .slice u3 n3 s3] 76)) ((w1.alloc (.cells #[.bool la, .slice u1 n1 s1, .slice u2 n2 s2, .slice u3 n3 s3] 76)).alloc (.cells #[.bool la, .slice p1 m1 t1, .slice p2 m2 t2, .slice p3 m3 t3] 76)) := (Below.refl _ _).alloc (Nat.le_refl _) _; replace GA := ((GA.below hb).below hA).below hA'; replace TT := ((TT.tr hb).tr hA).tr hA'; replace BR := ((BR.below hb).below hA).below hA'; obtain ⟨⟨r0, r1, r2, r3⟩, g0, g1, g2, g3⟩ := id BR; clear q0 q1 q2 q3)
   have T6 := turns_put4 ((w1.alloc (.cells #[.bool la, .slice u1 n1 s1, .slice u2 n2 s2, .slice u3 n3 s3] 76)).alloc (.cells #[.bool la, .slice p1 m1 t1, .slice p2 m2 t2, .slice p3 m3 t3] 76)) (w.heap.size + 1) (.bool false) (.slice none 0 0) (.slice none 0 0) (.slice none 0 0)
   refine bodyPost_ret (v := .tuple #[.agg #[.bool false, .slice none 0 0, .slice none 0 0, .slice none 0 0], .int .i64 81]) (by simp [results, Tryz.results70, go_sem, r0, r1, r2, r3]) rfl ?_
   exact ⟨_, _, _, _, none, 0, 0, none, 0, 0, rfl, rfl, rfl, isS_nil _, isI_nil _, from_nil _, from_nil _, GA.turns T6 (by omega) (by omega) ((newer_refl W a).off LB (by omega) (by omega)) ((newer_refl W a').off LN (by omega) (by omega)), ⟨newer_refl _ _, newer_refl _ _⟩, TT.own T6 (fun k hk e => by omega)⟩
set_option maxHeartbeats 400000 in
theorem isNaN_any (s : ByteArray) (w : World) :
  Calls Tryz.prog 96 #[.string s] w fun e w' => e = .returned (.bool false) ∧ w = w' := by
 go_enter Tryz.func96, Tryz.ntmps96
 go_wp2
 go_ret
 exact ⟨ret_bool (by simp), rfl⟩
set_option maxHeartbeats 400000 in
theorem isNaN2_any (s : ByteArray) (w : World) :
  Calls Tryz.prog 119 #[.string s] w fun e w' => e = .returned (.bool false) ∧ w = w' := by
 go_enter Tryz.func119, Tryz.ntmps119
 go_wp2
 go_ret
 exact ⟨ret_bool (by simp), rfl⟩
set_option maxHeartbeats 400000 in
theorem less_any (s t : ByteArray) (w : World) :
  Calls Tryz.prog 95 #[.string s, .string t] w fun e w' => e = .returned (.bool (ltB s t)) ∧ w = w' := by
 go_enter Tryz.func95, Tryz.ntmps95
 go_wp2_with (go_at_call 119; refine (isNaN2_any _ _).mono ?_; rintro e w' ⟨rfl, rfl⟩)
 go_ret
 exact ⟨ret_bool rfl, rfl⟩
theorem isN_here {key x : ByteArray} {ks : List ByteArray} {j : Nat} (hf : findN key ks = j) (hx : ks[j]? = some x) : isN ks key = (x.toList == key.toList) := by
 rw [Bool.eq_iff_iff, isN_iff, hf, hx, str_beq]
 exact ⟨fun h => Option.some.inj h, fun h => by rw [h]⟩
theorem isN_off {key : ByteArray} {ks : List ByteArray} (hf : findN key ks = ks.length) : isN ks key = false := by
 rw [Bool.eq_false_iff]
 intro h
 rw [isN_iff, hf, List.getElem?_eq_none (Nat.le_refl _)] at h
 cases h
set_option maxRecDepth 20000 in
set_option maxHeartbeats 1000000 in
theorem search_any (a : Option Addr) (c n : Nat) (ks : List ByteArray) (key : ByteArray) (w : World) (hn : n = ks.length) (hK : IsS w a c ks) (hr : risingK ks = true) (h9 : n ≤ 9) :
  Calls Tryz.prog 82 #[.slice a n c, .string key] w fun e w' => e = .returned (.tuple #[.int .i64 (findN key ks : Nat), .bool (isN ks key)]) ∧ w = w' := by
 have HK : Hid (IsS w a c ks) := hK
 have EK : Hid (n = ks.length) := hn
 have HR : Hid (risingK ks = true) := hr
 obtain ⟨f, hf⟩ : ∃ f, f = findN key ks := ⟨_, rfl⟩
 have HF : Hid (f = findN key ks) := hf
 have hfn : f ≤ n := by rw [hf, hn]; exact findN_le _ _
 obtain ⟨q, hq⟩ : ∃ q, q = isN ks key := ⟨_, rfl⟩
 have HQ : Hid (q = isN ks key) := hq
 rw [← hf, ← hq]
 clear hK hn hr hf hq
 go_enter Tryz.func82, Tryz.ntmps82
 go_wp2
 go_loop [7, 8] (fun u v => ∃ i j : Nat, u = .int .i64 i ∧ v = .int .i64 j ∧ i ≤ f ∧ f ≤ j ∧ j ≤ n) (fun u v => (intOf v).toNat - (intOf u).toNat)
 case atStart => exact ⟨0, n, rfl, rfl, by omega, by omega, by omega⟩
 case round =>
  obtain ⟨i, j, rfl, rfl, hif, hfj, hjn⟩ := hrel
  by_cases hlt : i < j
  ·
   have hlt' : (i : Int) < j := by omega
   obtain ⟨h, hh⟩ : ∃ h, h = (i + j) / 2 := ⟨_, rfl⟩
   have hhi : i ≤ h := by omega
   have hhj : h < j := by omega
   have hhn : (h : Int) < n := by omega
   obtain ⟨x, hx⟩ : ∃ x, Hid (ks[h]? = some x) := ⟨_, List.getElem?_eq_getElem (by rw [← EK.out]; omega)⟩
   obtain ⟨b, o, rfl, hlb, hc, hxs⟩ := HK.out.2.2 h x hx.out
   have hmid : ((i : Int) + j) / 2 = (h : Int) := by omega
   clear hh
   cases hl : ltB x key with
   | true =>
    have hN : Hid (h < f) := by
     rw [HF.out]
     rcases Nat.lt_or_ge h (findN key ks) with g | g
     ·
      exact g
     ·
      rw [findN_behind HR.out hx.out g] at hl; cases hl
    have cL := less_any x key w
    rw [hl] at cL
    clear hl
    go_wp2_with (go_at_call 95; refine cL.mono ?_; rintro e w' ⟨rfl, rfl⟩)
    go_round
    case rel => exact ⟨h + 1, j, by go_num, rfl, hN.out, hfj, hjn⟩
    case measure => simp [intOf]; omega
   | false =>
    have hN : Hid (f ≤ h) := by
     rw [HF.out]
     rcases Nat.lt_or_ge h (findN key ks) with g | g
     ·
      rw [findN_ahead hx.out g] at hl; cases hl
     ·
      exact g
    have cL := less_any x key w
    rw [hl] at cL
    clear hl
    go_wp2_with (go_at_call 95; refine cL.mono ?_; rintro e w' ⟨rfl, rfl⟩)
    go_round
    case rel => exact ⟨i, h, rfl, rfl, hif, hN.out, by omega⟩
    case measure => simp [intOf]; omega
  ·
   obtain rfl : i = f := by omega
   obtain rfl : i = j := by omega
   clear hlt hif hfj
   by_cases hin : (i : Int) < n
   ·
    obtain ⟨x, hx⟩ : ∃ x, Hid (ks[i]? = some x) := ⟨_, List.getElem?_eq_getElem (by rw [← EK.out]; omega)⟩
    obtain ⟨b, o, rfl, hlb, hc, hxs⟩ := HK.out.2.2 i x hx.out
    have hQ' : Hid (q = (x.toList == key.toList)) := by show _ = _; rw [HQ.out]; exact isN_here HF.out.symm hx.out
    cases he : (x.toList == key.toList) with
    | true =>
     have hQ2 : Hid (q = true) := by show _ = _; rw [hQ'.out, he]
     go_wp2
     go_ret2
     exact ⟨by rw [hQ2.out]; rfl, rfl⟩
    | false =>
     have hQ2 : Hid (q = false) := by show _ = _; rw [hQ'.out, he]
     go_wp2_with (go_at_call 96; refine (isNaN_any _ _).mono ?_; rintro e w' ⟨rfl, rfl⟩)
     go_ret2
     exact ⟨by rw [hQ2.out]; rfl, rfl⟩
   ·
    have hQ2 : Hid (q = false) := by show _ = _; rw [HQ.out]; exact isN_off (by rw [← HF.out, ← EK.out]; omega)
    go_wp2
    go_ret2
    exact ⟨by rw [hQ2.out]; rfl, rfl⟩
set_option maxHeartbeats 1000000 in
theorem nodeFind_any (l : Bool) (a a' a'' : Option Addr) (c c' c'' n n' n'' : Nat) (ks vs : List ByteArray) (cs : List Int) (key : ByteArray) (w : World) (hn : n = ks.length) (hn' : n' = vs.length) (hn'' : n'' = cs.length) (hK : IsS w a c ks) (hV : IsS w a' c' vs) (hC : IsI w a'' c'' cs) :
  Calls Tryz.prog 66 #[.agg #[.bool l, .slice a n c, .slice a' n' c', .slice a'' n'' c''], .string key] w fun e w' => e = .returned (.tuple #[.int .i64 (findR l ks vs cs key), .bool (findI l ks vs cs key)]) ∧ Below w.heap.size w w' := by
 have hB0 : Below w.heap.size w (w.alloc (.cells #[.bool l, .slice a n c, .slice a' n' c', .slice a'' n'' c''] 76)) := (Below.refl _ _).alloc (Nat.le_refl _) _
 have hX := box4_new w (.bool l) (.slice a n c) (.slice a' n' c') (.slice a'' n'' c'') 76 rfl
 have cS := mayStand_any l a a' a'' c c' c'' n n' n'' ks vs cs _ hn hn' hn'' (hK.below hB0) (hV.below hB0) (hC.below hB0)
 obtain ⟨r, hr⟩ : ∃ r, r = findR l ks vs cs key := ⟨_, rfl⟩
 obtain ⟨q, hq⟩ : ∃ q, q = findI l ks vs cs key := ⟨_, rfl⟩
 rw [← hr, ← hq]
 cases hs : standsN l ks vs cs with
 | true =>
  have HR : r = (findN key ks : Nat) := by rw [hr, findR, if_pos hs]
  have HQ : q = isN ks key := by rw [hq, findI, hs, Bool.true_and]
  rw [hs] at cS
  obtain ⟨h9, _, hri, _⟩ := standsN_iff.1 hs
  have cB : ∀ V, Below w.heap.size w V → Calls Tryz.prog 82 #[.slice a n c, .string key] V fun e w' => e = .returned (.tuple #[.int .i64 r, .bool q]) ∧ V = w' := fun V h => by rw [HR, HQ]; exact search_any a c n ks key V hn (hK.below h) hri (by rw [hn]; exact h9)
  clear hr hq hs HR HQ hn hn' hn'' hK hV hC h9 hri
  go_enter Tryz.func66, Tryz.ntmps66
  go_wp2_with (first
   | (go_at_call 81; refine cS.mono ?_; rintro e w1 ⟨rfl, hb⟩; obtain ⟨⟨q0, q1, q2, q3⟩, -⟩ := hX.below hb; have hB1 := Below.tr hB0 hb; clear hb cS hX hB0)
   | (go_at_call 82; refine (cB _ hB1).mono ?_; rintro e w2 ⟨rfl, rfl⟩))
  go_ret2
  exact ⟨rfl, hB1⟩
 | false =>
  have HR : Hid (r = 0) := by show _ = _; rw [hr, findR, if_neg (by rw [hs]; simp)]
  have HQ : Hid (q = false) := by show _ = _; rw [hq, findI, hs, Bool.false_and]
  rw [hs] at cS
  clear hr hq hs hn hn' hn'' hK hV hC
  go_enter Tryz.func66, Tryz.ntmps66
  go_wp2_with (go_at_call 81; refine cS.mono ?_; rintro e w1 ⟨rfl, hb⟩; obtain ⟨⟨q0, q1, q2, q3⟩, -⟩ := hX.below hb; have hB1 := Below.tr hB0 hb)
  go_ret2
  exact ⟨by rw [HR.out, HQ.out]; rfl, hB1⟩
theorem kidR_find {l : Bool} {ks vs : List ByteArray} {cs : List Int} {key : ByteArray} (hl : l = false) : kidR l ks vs cs key = findR l ks vs cs key + (if findI l ks vs cs key = true then 1 else 0) := by
 subst hl
 unfold kidR findR findI
 cases hs : standsN false ks vs cs with
 | true =>
  obtain ⟨_, _, hri, _⟩ := standsN_iff.1 hs
  rw [if_pos ⟨rfl, rfl⟩, if_pos rfl, Bool.true_and, kidN_find hri]
  split <;> simp
 | false => simp
set_option maxHeartbeats 1000000 in
theorem nodeKid_any (l : Bool) (a a' a'' : Option Addr) (c c' c'' n n' n'' : Nat) (ks vs : List ByteArray) (cs : List Int) (key : ByteArray) (w : World) (hn : n = ks.length) (hn' : n' = vs.length) (hn'' : n'' = cs.length) (hK : IsS w a c ks) (hV : IsS w a' c' vs) (hC : IsI w a'' c'' cs) :
  Calls Tryz.prog 50 #[.agg #[.bool l, .slice a n c, .slice a' n' c', .slice a'' n'' c''], .string key] w fun e w' => e = .returned (.int .i64 (kidR l ks vs cs key)) ∧ Below w.heap.size w w' := by
 have hB0 : Below w.heap.size w (w.alloc (.cells #[.bool l, .slice a n c, .slice a' n' c', .slice a'' n'' c''] 76)) := (Below.refl _ _).alloc (Nat.le_refl _) _
 have hX := box4_new w (.bool l) (.slice a n c) (.slice a' n' c') (.slice a'' n'' c'') 76 rfl
 have cS := nodeFind_any l a a' a'' c c' c'' n n' n'' ks vs cs key _ hn hn' hn'' (hK.below hB0) (hV.below hB0) (hC.below hB0)
 obtain ⟨r, hr⟩ : ∃ r, r = kidR l ks vs cs key := ⟨_, rfl⟩
 rw [← hr]
 cases l with
 | true =>
  have HR : Hid (r = 0) := by show _ = _; rw [hr, kidR, if_neg (by simp)]
  clear hr cS hn hn' hn'' hK hV hC
  go_enter Tryz.func50, Tryz.ntmps50
  go_wp2
  go_ret
  exact ⟨ret_int HR.out.symm, hB0⟩
 | false =>
  rw [kidR_find rfl] at hr
  have hb0 : 0 ≤ findR false ks vs cs key ∧ findR false ks vs cs key ≤ n := by
   unfold findR
   have := findN_le key ks
   split <;> omega
  have hm : n ≤ 9223372036854775807 := by rw [hn]; exact hK.size
  have hb9 : findR false ks vs cs key ≤ 9 := by
   unfold findR
   have := findN_le key ks
   split
   ·
    rename_i h; have := (standsN_iff.1 h).1; omega
   ·
    omega
  generalize findR false ks vs cs key = f at cS hr hb0 hb9
  generalize findI false ks vs cs key = g at cS hr
  clear hn hn' hn'' hK hV hC
  cases g with
  | true =>
   have HR : Hid (r = f + 1) := by show _ = _; rw [hr]; rfl
   clear hr
   go_enter Tryz.func50, Tryz.ntmps50
   go_wp2_with (go_at_call 66; refine cS.mono ?_; rintro e w1 ⟨rfl, hb⟩; have hB1 := Below.tr hB0 hb)
   go_ret
   exact ⟨ret_int HR.out.symm, hB1⟩
  | false =>
   have HR : Hid (r = f) := by show _ = _; rw [hr]; simp
   clear hr
   go_enter Tryz.func50, Tryz.ntmps50
   go_wp2_with (go_at_call 66; refine cS.mono ?_; rintro e w1 ⟨rfl, hb⟩; have hB1 := Below.tr hB0 hb)
   go_ret
   exact ⟨ret_int HR.out.symm, hB1⟩
structure MStep where
 block : Int
 l : Bool
 a1 : Option Addr
 k1 : Nat
 d1 : Nat
 a2 : Option Addr
 k2 : Nat
 d2 : Nat
 a3 : Option Addr
 k3 : Nat
 d3 : Nat
 kid : Nat
def MStep.cells (m : MStep) : List Value := [.int .i64 m.block, .bool m.l, .slice m.a1 m.k1 m.d1, .slice m.a2 m.k2 m.d2, .slice m.a3 m.k3 m.d3, .int .i64 m.kid]
def cellsM (ms : List MStep) : List Value := ms.flatMap MStep.cells
theorem cellsM_append (ms ns : List MStep) : cellsM (ms ++ ns) = cellsM ms ++ cellsM ns := by simp [cellsM]
theorem cellsM_at {ms : List MStep} {j : Nat} {m : MStep} (h : ms[j]? = some m) (t : Nat) (ht : t < 6) : (cellsM ms)[j * 6 + t]? = m.cells[t]? := by
 induction ms generalizing j with
 | nil => simp at h
 | cons n ms ih =>
  show (n.cells ++ cellsM ms)[j * 6 + t]? = _
  cases j with
  | zero =>
   simp at h
   subst h
   rw [List.getElem?_append_left (by show _ < 6; omega)]
   congr 1
   omega
  | succ j =>
   rw [List.getElem?_append_right (by show 6 ≤ _; omega)]
   have e : (j + 1) * 6 + t - n.cells.length = j * 6 + t := by show (j + 1) * 6 + t - 6 = _; omega
   rw [e]
   exact ih (by simpa using h)
def Reps (w : World) (h q : Nat) (ms : List MStep) (ss : List StepS) : Prop :=
 ms.length = ss.length ∧ ∀ (j : Nat) (m : MStep) (s : StepS), ms[j]? = some m → ss[j]? = some s → m.block = s.1 ∧ m.l = s.2.1.1 ∧ m.kid = s.2.2 ∧ NodeR w h q m.a1 m.k1 m.d1 m.a2 m.k2 m.d2 m.a3 m.k3 m.d3 s.2.1.2.1 s.2.1.2.2.1 s.2.1.2.2.2
theorem reps_nil (w : World) (h q : Nat) : Reps w h q [] [] := ⟨rfl, fun j m s hm => by simp at hm⟩
theorem Reps.mine {w w' : World} {h q : Nat} {ms : List MStep} {ss : List StepS} (r : Reps w h q ms ss) (t : Turns (Mine h q) w w') : Reps w' h q ms ss := by
 refine ⟨r.1, fun j m s hm hs => ?_⟩
 obtain ⟨h1, h2, h3, h4⟩ := r.2 j m s hm hs
 exact ⟨h1, h2, h3, h4.mine t⟩
theorem Reps.below {w w' : World} {h q : Nat} {ms : List MStep} {ss : List StepS} (r : Reps w h q ms ss) (hb : Below w.heap.size w w') : Reps w' h q ms ss := r.mine (Turns.of_below hb)
theorem Reps.push {w : World} {h q : Nat} {ms : List MStep} {ss : List StepS} (r : Reps w h q ms ss) {m : MStep} {s : StepS} (h1 : m.block = s.1) (h2 : m.l = s.2.1.1) (h3 : m.kid = s.2.2) (h4 : NodeR w h q m.a1 m.k1 m.d1 m.a2 m.k2 m.d2 m.a3 m.k3 m.d3 s.2.1.2.1 s.2.1.2.2.1 s.2.1.2.2.2) : Reps w h q (ms ++ [m]) (ss ++ [s]) := by
 refine ⟨by simp [r.1], fun j m' s' hm hs => ?_⟩
 by_cases hj : j < ms.length
 ·
  rw [List.getElem?_append_left hj] at hm
  rw [List.getElem?_append_left (by rw [← r.1]; exact hj)] at hs
  exact r.2 j m' s' hm hs
 ·
  have hj' : j = ms.length := by
   have := (List.getElem?_eq_some_iff.1 hm).1
   simp at this
   omega
  subst hj'
  simp at hm
  rw [r.1] at hs
  simp at hs
  subst hm hs
  exact ⟨h1, h2, h3, h4⟩
theorem IsS.turnsL {P : Nat → Prop} {w w' : World} {a : Option Addr} {c : Nat} {ms : List ByteArray} (h : IsS w a c ms) (t : Turns P w w') (hp : ms ≠ [] → ∀ x, a = some x → ¬ P x.block) : IsS w' a c ms := by
 by_cases e : ms = []
 ·
  subst e; exact ⟨h.1, h.2.1, fun j x hx => by simp at hx⟩
 ·
  exact h.turns t (hp e)
theorem IsI.turnsL {P : Nat → Prop} {w w' : World} {a : Option Addr} {c : Nat} {ms : List Int} (h : IsI w a c ms) (t : Turns P w w') (hp : ms ≠ [] → ∀ x, a = some x → ¬ P x.block) : IsI w' a c ms := by
 by_cases e : ms = []
 ·
  subst e; exact ⟨h.1, h.2.1, fun j x hx => by simp at hx⟩
 ·
  exact h.turns t (hp e)
theorem IsS.heldL {w : World} {a : Option Addr} {c : Nat} {ms : List ByteArray} (h : IsS w a c ms) : ms ≠ [] → ∀ x, a = some x → x.block < w.heap.size := by
 intro e x hx
 obtain ⟨y, hy⟩ := List.exists_mem_of_ne_nil _ e
 obtain ⟨j, hj⟩ := List.getElem?_of_mem hy
 obtain ⟨b, o, ha, hlt, _⟩ := h.2.2 j y hj
 rw [hx] at ha
 cases ha
 exact hlt
theorem IsI.heldL {w : World} {a : Option Addr} {c : Nat} {ms : List Int} (h : IsI w a c ms) : ms ≠ [] → ∀ x, a = some x → x.block < w.heap.size := by
 intro e x hx
 obtain ⟨y, hy⟩ := List.exists_mem_of_ne_nil _ e
 obtain ⟨j, hj⟩ := List.getElem?_of_mem hy
 obtain ⟨b, o, ha, hlt, _⟩ := h.2.2 j y hj
 rw [hx] at ha
 cases ha
 exact hlt
def OffN (z : Nat) (m : MStep) (s : StepS) : Prop :=
 (s.2.1.2.1 ≠ [] → ∀ x, m.a1 = some x → ¬ x.block = z) ∧ (s.2.1.2.2.1 ≠ [] → ∀ x, m.a2 = some x → ¬ x.block = z) ∧ (s.2.1.2.2.2 ≠ [] → ∀ x, m.a3 = some x → ¬ x.block = z)
def Offs (z : Option Nat) (ms : List MStep) (ss : List StepS) : Prop := ∀ (j : Nat) (m : MStep) (s : StepS) (g : Nat), ms[j]? = some m → ss[j]? = some s → z = some g → OffN g m s
theorem reps_push {V w3 : World} {h q g : Nat} {v : Value} {ms : List MStep} {ss : List StepS} {m : MStep} {s : StepS} (r : Reps V h q ms ss) (o : Offs v.ownBlock ms ss) (h1 : m.block = s.1) (h2 : m.l = s.2.1.1) (h3 : m.kid = s.2.2) (h4 : NodeR V h q m.a1 m.k1 m.d1 m.a2 m.k2 m.d2 m.a3 m.k3 m.d3 s.2.1.2.1 s.2.1.2.2.1 s.2.1.2.2.2)
  (on : ∀ z, v.ownBlock = some z → OffN z m s) (t : Turns (fun k => v.ownBlock = some k) V w3) (hg : v.ownBlock = some g ∨ V.heap.size ≤ g) : Reps w3 h q (ms ++ [m]) (ss ++ [s]) ∧ Offs (some g) (ms ++ [m]) (ss ++ [s]) := by
 have r1 := r.push h1 h2 h3 h4
 have o1 : Offs v.ownBlock (ms ++ [m]) (ss ++ [s]) := by
  intro j m' s' z hm hs hz
  by_cases hj : j < ms.length
  ·
   rw [List.getElem?_append_left hj] at hm
   rw [List.getElem?_append_left (by rw [← r.1]; exact hj)] at hs
   exact o j m' s' z hm hs hz
  ·
   have hj' : j = ms.length := by
    have := (List.getElem?_eq_some_iff.1 hm).1
    simp at this
    omega
   subst hj'
   simp at hm
   rw [r.1] at hs
   simp at hs
   subst hm hs
   exact on z hz
 refine ⟨⟨r1.1, fun j m' s' hm hs => ?_⟩, fun j m' s' z hm hs hz => ?_⟩
 ·
  obtain ⟨e1, e2, e3, n⟩ := r1.2 j m' s' hm hs
  have oo := fun z hz => o1 j m' s' z hm hs hz
  exact ⟨e1, e2, e3, n.e1, n.e2, n.e3, n.i1.turnsL t (fun hne x hx e => (oo _ e).1 hne x hx rfl), n.i2.turnsL t (fun hne x hx e => (oo _ e).2.1 hne x hx rfl), n.i3.turnsL t (fun hne x hx e => (oo _ e).2.2 hne x hx rfl), n.o1, n.o2, n.o3⟩
 ·
  cases hz
  rcases hg with hg | hg
  ·
   exact o1 j m' s' g hm hs hg
  ·
   obtain ⟨_, _, _, n⟩ := r1.2 j m' s' hm hs
   exact ⟨fun hne x hx => by have := n.i1.heldL hne x hx; omega, fun hne x hx => by have := n.i2.heldL hne x hx; omega, fun hne x hx => by have := n.i3.heldL hne x hx; omega⟩
theorem Tryz.info105 : (Tryz.prog.info? 105).map (fun i => (i.zero, i.size, i.bytes)) = some (some (.agg #[.int .i64 0, .bool false, .slice none 0 0, .slice none 0 0, .slice none 0 0, .int .i64 0]), 6, 96) := by kernel_rfl
theorem push_M (W : World) (base : Nat) (v : Value) (n : Nat) (l : List MStep) (x : MStep) (hown : W.ownsRow base 105 6 v n (cellsM l)) (hb : base ≤ W.heap.size) (hn : n ≤ 4096) :
  ∃ g cap w', (Builtin.append_ #[101, 101] 101 #[v, .slice (some ⟨W.heap.size, 0, none⟩) 1 1]).run Tryz.prog (W.alloc (.cells #[.int .i64 x.block, .bool x.l, .slice x.a1 x.k1 x.d1, .slice x.a2 x.k2 x.d2, .slice x.a3 x.k3 x.d3, .int .i64 x.kid] 105)) = .ok (.slice (some ⟨g, 0, none⟩) (n + 1) cap) w' ∧
   w'.ownsRow base 105 6 (.slice (some ⟨g, 0, none⟩) (n + 1) cap) (n + 1) (cellsM (l ++ [x])) ∧ (W.alloc (.cells #[.int .i64 x.block, .bool x.l, .slice x.a1 x.k1 x.d1, .slice x.a2 x.k2 x.d2, .slice x.a3 x.k3 x.d3, .int .i64 x.kid] 105)).grownBy w' v.ownBlock ∧ (v.ownBlock = some g ∨ g = W.heap.size + 1) ∧ base ≤ g ∧ g < w'.heap.size := by
 obtain ⟨i0, hi, hz0, hz1, hz2⟩ := info_parts Tryz.info105
 obtain ⟨g, cap, w', h1, h2, h3, h4, h5⟩ := run_append_lies (P := Tryz.prog) (W.alloc (.cells #[.int .i64 x.block, .bool x.l, .slice x.a1 x.k1 x.d1, .slice x.a2 x.k2 x.d2, .slice x.a3 x.k3 x.d3, .int .i64 x.kid] 105)) 101 101 base 105 i0 _ 6 96 Tryz.underlying101 hi hz0 hz1 hz2 rfl (by decide) v n (cellsM l) (hown.alloc _) ⟨W.heap.size, 0, none⟩ 1 1 x.cells rfl
  (by
   intro j u hj
   match j, hj with
   | 0, hj => cases hj; rw [at_add]; exact World.cell?_alloc_at _ _ _ _ rfl
   | 1, hj => cases hj; rw [at_add]; exact World.cell?_alloc_at _ _ _ _ rfl
   | 2, hj => cases hj; rw [at_add]; exact World.cell?_alloc_at _ _ _ _ rfl
   | 3, hj => cases hj; rw [at_add]; exact World.cell?_alloc_at _ _ _ _ rfl
   | 4, hj => cases hj; rw [at_add]; exact World.cell?_alloc_at _ _ _ _ rfl
   | 5, hj => cases hj; rw [at_add]; exact World.cell?_alloc_at _ _ _ _ rfl
   | j + 6, hj => cases hj)
  (by intro u hu; unfold MStep.cells at hu; simp at hu; rcases hu with rfl | rfl | rfl | rfl | rfl | rfl <;> rfl) (by omega) (by unfold maxLen; omega) (by omega) (by simp; omega) (W.heap.size + 1) (by simp)
 have e : cellsM [x] = x.cells := by simp [cellsM]
 refine ⟨g, cap, w', h1, by rw [cellsM_append, e]; exact h2, h3, h4, (h2.lt g rfl).1, h5⟩
def DownC (w : World) (x : Ending) (w' : World) (h q : Nat) : Option (List StepS) → Prop
 | none => x = .returned (.tuple #[.slice none 0 0, .int .i64 81]) ∧ Below w.heap.size w w'
 | some ss => ∃ g cap n ms, x = .returned (.tuple #[.slice (some ⟨g, 0, none⟩) n cap, .int .i64 0]) ∧ n = ss.length ∧ w'.ownsRow w.heap.size 105 6 (.slice (some ⟨g, 0, none⟩) n cap) n (cellsM ms) ∧ Reps w' h q ms ss ∧ Below w.heap.size w w'
set_option maxRecDepth 20000 in
set_option maxHeartbeats 4000000 in
theorem down_any (h q cp : Nat) (a : Option Addr) (c : Nat) (a' : Option Addr) (c' : Nat) (G : WoodS) (key : ByteArray) (w : World) (GA : GrowAt w h q cp a c a' c' G) (hr : G.right = true) (mk : key.size ≤ maxLen) :
  Calls Tryz.prog 55 #[.pointer (some ⟨h, 0, none⟩), .string key] w fun x w' => DownC w x w' h q (downG G.holds key 8 G.root true) := by
 have cL : ∀ V blk rt, Below w.heap.size w V → Calls Tryz.prog 69 #[.agg #[.slice a G.base.length c, .slice a' G.now.length c', .slice (some ⟨q, 0, none⟩) G.pages.length cp, .int .i64 G.root, .int .i64 G.gen], .int .i64 blk, .bool rt] V fun x w' => LoadC V x w' true (G.holds blk rt) := fun V blk rt hV => by
  have := lookLoad_any a a' (some ⟨q, 0, none⟩) G.base.length c G.now.length c' G.pages.length cp G.base G.now G.pages G.root G.gen blk rt V rfl rfl rfl (GA.bs.below hV) (GA.ns.below hV) (GA.pg.isS.below hV)
  have e : rightW G.base G.now G.pages G.root G.gen = true := hr
  rw [e] at this
  exact this
 have BX : WoodBox w h (.slice a G.base.length c) (.slice a' G.now.length c') (.slice (some ⟨q, 0, none⟩) G.pages.length cp) (.int .i64 G.root) (.int .i64 G.gen) := GA.box
 have hh : h < w.heap.size := GA.lt
 have hqq : q < w.heap.size := GA.pg.lt
 have HS : Hid (∀ blk rt n, G.holds blk rt = some n → standsN n.1 n.2.1 n.2.2.1 n.2.2.2 = true) := fun blk rt n hn => (rightN_iff.1 (holds_nodeRight hn)).1
 obtain ⟨D, hD⟩ : ∃ D, D = downG G.holds key 8 G.root true := ⟨_, rfl⟩
 rw [← hD]
 have VD : Hid (D = downG G.holds key 8 G.root true) := hD
 generalize G.holds = H at *
 clear GA hr hD
 obtain ⟨x0, x1, x2, x3, x4⟩ := id BX
 go_enter Tryz.func55, Tryz.ntmps55
 go_wp2
 go_loopw [6, 7, 16] (fun v b i wr => ∃ (j : Nat) (pre : List StepS) (ms : List MStep) (blk : Int) (va : Option Addr) (vc : Nat), i = .int .i64 j ∧ b = .int .i64 blk ∧ j ≤ 8 ∧ pre.length = j ∧ D = (downG H key (8 - j) blk (decide (j = 0))).map (pre ++ ·) ∧ v = .slice va j vc ∧ wr.ownsRow w.heap.size 105 6 v j (cellsM ms) ∧ Reps wr h q ms pre ∧ Offs v.ownBlock ms pre ∧ Below w.heap.size w wr) (fun _ _ i _ => 8 - (intOf i).toNat)
 case atStart => exact ⟨0, [], [], _, none, 0, rfl, rfl, by omega, rfl, by rw [VD.out]; simp, rfl, World.ownsRow_nil _ _ _ _, reps_nil _ _ _, (fun j m s g hm => by simp at hm), Below.refl _ _⟩
 case round =>
  obtain ⟨j, pre, ms, blk, va, vc, rfl, rfl, hj, hpl, hDj, rfl, hown, hR, hOf, hbel⟩ := hrel
  have HF : Hid (Offs (Value.slice va j vc).ownBlock ms pre) := hOf
  have HP : Hid (pre.length = j) := hpl
  have HDj : Hid (D = (downG H key (8 - j) blk (decide (j = 0))).map (pre ++ ·)) := hDj
  have HO : Hid (wr.ownsRow w.heap.size 105 6 (.slice va j vc) j (cellsM ms)) := hown
  have HR : Hid (Reps wr h q ms pre) := hR
  clear hpl hDj hown hR hOf VD
  by_cases hlt : j < 8
  ·
   have hlt' : (j : Int) < 8 := by omega
   obtain ⟨y0, y1, y2, y3, y4⟩ := BX.below hbel
   obtain ⟨rt, hrt⟩ : ∃ rt, rt = decide (j = 0) := ⟨_, rfl⟩
   have hj0 : ((j : Int) == 0) = rt := by
    rw [hrt]
    by_cases e : j = 0
    ·
     subst e; rfl
    ·
     rw [decide_eq_false e, beq_eq_false_iff_ne]; omega
   have cl := cL wr blk rt hbel
   obtain ⟨k, hk⟩ : ∃ k, 8 - j = k + 1 := ⟨7 - j, by omega⟩
   have HK : Hid (8 - j = k + 1) := hk
   have HRT : Hid (rt = decide (j = 0)) := hrt
   clear hk hrt
   cases hO : H blk rt with
   | none =>
    rw [hO] at cl
    have hDn : D = none := by rw [HDj.out, HK.out, ← HRT.out, downG, hO]; rfl
    subst hDn
    clear hO
    go_wp2_with (go_at_call 69; refine cl.mono ?_; rintro z w1 ⟨k1, a1, d1, k2, a2, d2, k3, a3, d3, rfl, e1, e2, e3, i1, i2, i3, j1, j2, j3, hb⟩; clear e1 e2 e3 i1 i2 i3 j1 j2 j3; replace hbel := Below.tr hbel hb; have hA : Below w1.heap.size w1 (w1.alloc (.cells #[.bool false, .slice a1 k1 d1, .slice a2 k2 d2, .slice a3 k3 d3] 76)) := (Below.refl _ _).alloc (Nat.le_refl _) _; replace hbel := Below.tr hbel hA; clear hA hb)
    go_ret2
    exact ⟨rfl, hbel⟩
   | some nd =>
    rw [hO] at cl
    have hst := HS.out blk rt nd hO
    have hDn : D = if nd.1 = true then some (pre ++ [(blk, nd, 0)]) else (downG H key k (nd.2.2.2.getD (kidN nd.2.1 key) 0) false).map ((pre ++ [(blk, nd, kidN nd.2.1 key)]) ++ ·) := by
     rw [HDj.out, HK.out, ← HRT.out, downG_at hO]
     split
     ·
      rfl
     ·
      rw [Option.map_map]
      congr 1
      funext x
      simp
    obtain ⟨l, ks, vs, cs⟩ := nd
    simp only at hst hDn
    have cK : ∀ V {a1 : Option Addr} {k1 d1 : Nat} {a2 : Option Addr} {k2 d2 : Nat} {a3 : Option Addr} {k3 d3 : Nat}, NodeR V h q a1 k1 d1 a2 k2 d2 a3 k3 d3 ks vs cs → Calls Tryz.prog 50 #[.agg #[.bool l, .slice a1 k1 d1, .slice a2 k2 d2, .slice a3 k3 d3], .string key] V fun e w' => e = .returned (.int .i64 (kidR l ks vs cs key)) ∧ Below V.heap.size V w' := fun V a1 k1 d1 a2 k2 d2 a3 k3 d3 n => nodeKid_any l a1 a2 a3 d1 d2 d3 k1 k2 k3 ks vs cs key V n.e1 n.e2 n.e3 n.i1 n.i2 n.i3
    have HPm : Hid (∀ V {a1 : Option Addr} {k1 d1 : Nat} {a2 : Option Addr} {k2 d2 : Nat} {a3 : Option Addr} {k3 d3 : Nat} (kk : Nat), wr.heap.size ≤ V.heap.size → V.ownsRow w.heap.size 105 6 (.slice va j vc) j (cellsM ms) → ∃ g cap w', (Builtin.append_ #[101, 101] 101 #[.slice va j vc, .slice (some ⟨V.heap.size, 0, none⟩) 1 1]).run Tryz.prog (V.alloc (.cells #[.int .i64 blk, .bool l, .slice a1 k1 d1, .slice a2 k2 d2, .slice a3 k3 d3, .int .i64 kk] 105)) = .ok (.slice (some ⟨g, 0, none⟩) (j + 1) cap) w' ∧ w'.ownsRow w.heap.size 105 6 (.slice (some ⟨g, 0, none⟩) (j + 1) cap) (j + 1) (cellsM (ms ++ [⟨blk, l, a1, k1, d1, a2, k2, d2, a3, k3, d3, kk⟩])) ∧ Below w.heap.size V w' ∧ Turns (fun k => (Value.slice va j vc).ownBlock = some k) V w' ∧ ((Value.slice va j vc).ownBlock = some g ∨ V.heap.size ≤ g)) := by
     intro V a1 k1 d1 a2 k2 d2 a3 k3 d3 kk hs ho
     have hw : w.heap.size ≤ V.heap.size := Nat.le_trans hbel.size hs
     obtain ⟨g, cap, w', p1, p2, p3, p4, p5, p6⟩ := push_M V w.heap.size (.slice va j vc) j ms ⟨blk, l, a1, k1, d1, a2, k2, d2, a3, k3, d3, kk⟩ ho hw (by omega)
     refine ⟨g, cap, w', p1, p2, ?_⟩
     have hA := (Below.refl w.heap.size V).alloc hw (.cells #[.int .i64 blk, .bool l, .slice a1 k1 d1, .slice a2 k2 d2, .slice a3 k3 d3, .int .i64 kk] 105)
     exact ⟨hA.grown p3 (by simp; omega) fun k hk => (ho.lt k hk).1, ((Turns.refl _ _).alloc _).grown p3 (fun k hk => hk), p4.imp id (fun e => by omega)⟩
    cases l with
    | true =>
     have ekid : kidR true ks vs cs key = ((0 : Nat) : Int) := by unfold kidR; rw [if_neg (fun hh => by cases hh.2)]; rfl
     rw [ekid] at cK
     replace hDn : D = some (pre ++ [(blk, (true, ks, vs, cs), 0)]) := hDn
     subst hDn
     clear hO ekid hst HDj
     go_wp2_with (first
      | (go_at_call 69; refine cl.mono ?_; rintro z w1 ⟨k1, a1, d1, k2, a2, d2, k3, a3, d3, rfl, e1, e2, e3, i1, i2, i3, j1, j2, j3, hb⟩; have hA : Below w1.heap.size w1 (w1.alloc (.cells #[.bool true, .slice a1 k1 d1, .slice a2 k2 d2, .slice a3 k3 d3] 76)) := (Below.refl _ _).alloc (Nat.le_refl _) _; have hwr := hbel.size; have hvb : ∀ z, (Value.slice va j vc).ownBlock = some z → z < wr.heap.size := (fun z hz => (HO.out.lt z hz).2); have hoff : Hid (∀ z, (Value.slice va j vc).ownBlock = some z → OffN z ⟨blk, true, a1, k1, d1, a2, k2, d2, a3, k3, d3, 0⟩ (blk, (true, ks, vs, cs), 0)) := (fun z hz => ⟨fun _ x hx e => (by have := j1 x hx; have := hvb z hz; omega), fun _ x hx e => (by have := j2 x hx; have := hvb z hz; omega), fun _ x hx e => (by have := j3 x hx; have := hvb z hz; omega)⟩); have NN : Hid (NodeR (w1.alloc (.cells #[.bool true, .slice a1 k1 d1, .slice a2 k2 d2, .slice a3 k3 d3] 76)) h q a1 k1 d1 a2 k2 d2 a3 k3 d3 ks vs cs) := ⟨e1, e2, e3, i1.below hA, i2.below hA, i3.below hA, j1.off2 (by omega) (by omega), j2.off2 (by omega) (by omega), j3.off2 (by omega) (by omega)⟩; have BN := box4_new w1 (.bool true) (.slice a1 k1 d1) (.slice a2 k2 d2) (.slice a3 k3 d3) 76 rfl; have hs1 : wr.heap.size ≤ w1.heap.size := hb.size; replace hbel := Below.tr (Below.tr hbel hb) hA; replace HR : Hid (Reps (w1.alloc (.cells #[.bool true, .slice a1 k1 d1, .slice a2 k2 d2, .slice a3 k3 d3] 76)) h q ms pre) := (HR.out.below hb).below hA; replace HO : Hid ((w1.alloc (.cells #[.bool true, .slice a1 k1 d1, .slice a2 k2 d2, .slice a3 k3 d3] 76)).ownsRow w.heap.size 105 6 (.slice va j vc) j (cellsM ms)) := (Turns.of_below (P := fun _ => False) (Below.tr hb hA)).owns HO.out (fun _ _ x => x); obtain ⟨⟨b0, b1, b2, b3⟩, -⟩ := id BN; clear hA hb e1 e2 e3 i1 i2 i3 j1 j2 j3)
      | (go_at_call 50; refine (cK _ NN.out).mono ?_; rintro z w2 ⟨rfl, hb⟩; replace hbel := Below.tr hbel hb; replace NN : Hid (NodeR w2 h q a1 k1 d1 a2 k2 d2 a3 k3 d3 ks vs cs) := NN.out.below hb; replace HR : Hid (Reps w2 h q ms pre) := HR.out.below hb; replace BN := BN.below hb; replace HO : Hid (w2.ownsRow w.heap.size 105 6 (.slice va j vc) j (cellsM ms)) := (Turns.of_below (P := fun _ => False) hb).owns HO.out (fun _ _ x => x); have hs2 := hb.size; simp at hs2; obtain ⟨g, cap, w3, hrun, own3, bel3, T3, hg3⟩ := HPm.out w2 (a1 := a1) (k1 := k1) (d1 := d1) (a2 := a2) (k2 := k2) (d2 := d2) (a3 := a3) (k3 := k3) (d3 := d3) 0 (by omega) HO.out; obtain ⟨R3, F3⟩ := reps_push (m := ⟨blk, true, a1, k1, d1, a2, k2, d2, a3, k3, d3, 0⟩) (s := (blk, (true, ks, vs, cs), 0)) HR.out HF.out rfl rfl rfl NN.out hoff.out T3 hg3; have BN3 := BN.turns T3 (fun e => (by have := hvb _ e; omega)); have HO2 : Hid (w3.ownsRow w.heap.size 105 6 (.slice (some ⟨g, 0, none⟩) (j + 1) cap) (j + 1) (cellsM (ms ++ [⟨blk, true, a1, k1, d1, a2, k2, d2, a3, k3, d3, 0⟩]))) := own3; have HR2 : Hid (Reps w3 h q (ms ++ [⟨blk, true, a1, k1, d1, a2, k2, d2, a3, k3, d3, 0⟩]) (pre ++ [(blk, (true, ks, vs, cs), 0)])) := R3; have HF2 : Hid (Offs (some g) (ms ++ [⟨blk, true, a1, k1, d1, a2, k2, d2, a3, k3, d3, 0⟩]) (pre ++ [(blk, (true, ks, vs, cs), 0)])) := F3; replace hbel := hbel.trans bel3; have I3 : Hid (IsI w3 a3 d3 cs) := NN.out.i3.turnsL T3 (fun hne x hx e => (hoff.out _ e).2.2 hne x hx rfl); have E3 : Hid (k3 = cs.length) := NN.out.e3; clear b0 b1 b2 b3 own3 bel3 R3 F3 T3 hg3; obtain ⟨⟨c0, c1, c2, c3⟩, -⟩ := id BN3; obtain ⟨⟨b0, b1, b2, b3⟩, -⟩ := id BN; clear hb)
      | (at_builtin; refine Lib.wpList_append_run _ rfl _ _ _ _ rfl _ _ rfl rfl _ _ hrun ?_; skip))
     go_ret2
     have hl1 : j + 1 = (pre ++ [(blk, ((true, ks, vs, cs) : NodeS), 0)]).length := by rw [List.length_append, HP.out]; rfl
     exact ⟨_, _, _, _, rfl, hl1, HO2.out, HR2.out, hbel⟩
    | false =>
     obtain ⟨_, _, hrk, _, _, hsh⟩ := standsN_iff.1 hst
     obtain ⟨_, _, hlc⟩ := shape_inner.1 hsh
     have ekid : kidR false ks vs cs key = ((kidN ks key : Nat) : Int) := by unfold kidR; rw [if_pos ⟨hst, rfl⟩]
     rw [ekid] at cK
     have hkle := kidN_le ks key
     obtain ⟨kk, hkk⟩ : ∃ kk, kk = kidN ks key := ⟨_, rfl⟩
     rw [← hkk] at cK hDn hkle
     obtain ⟨b', hb'⟩ : ∃ b, cs[kk]? = some b := ⟨_, List.getElem?_eq_getElem (by omega)⟩
     have hgd : cs.getD kk 0 = b' := by rw [List.getD_eq_getElem?_getD, hb']; rfl
     have HDn : Hid (D = (downG H key (8 - (j + 1)) b' (decide (j + 1 = 0))).map ((pre ++ [(blk, (false, ks, vs, cs), kk)]) ++ ·)) := by
      show _ = _
      rw [hDn, if_neg (by decide), hgd]
      have : 8 - (j + 1) = k := by have := HK.out; omega
      rw [this]
      rfl
     have HB' : Hid (cs[kk]? = some b' ∧ kk < cs.length) := ⟨hb', by omega⟩
     clear hDn hO ekid hst HDj hrk hsh hlc hkle hkk hb' hgd
     go_wp2_with (first
      | (go_at_call 69; refine cl.mono ?_; rintro z w1 ⟨k1, a1, d1, k2, a2, d2, k3, a3, d3, rfl, e1, e2, e3, i1, i2, i3, j1, j2, j3, hb⟩; have hA : Below w1.heap.size w1 (w1.alloc (.cells #[.bool false, .slice a1 k1 d1, .slice a2 k2 d2, .slice a3 k3 d3] 76)) := (Below.refl _ _).alloc (Nat.le_refl _) _; have hwr := hbel.size; have hvb : ∀ z, (Value.slice va j vc).ownBlock = some z → z < wr.heap.size := (fun z hz => (HO.out.lt z hz).2); have hoff : Hid (∀ z, (Value.slice va j vc).ownBlock = some z → OffN z ⟨blk, false, a1, k1, d1, a2, k2, d2, a3, k3, d3, kk⟩ (blk, (false, ks, vs, cs), kk)) := (fun z hz => ⟨fun _ x hx e => (by have := j1 x hx; have := hvb z hz; omega), fun _ x hx e => (by have := j2 x hx; have := hvb z hz; omega), fun _ x hx e => (by have := j3 x hx; have := hvb z hz; omega)⟩); have NN : Hid (NodeR (w1.alloc (.cells #[.bool false, .slice a1 k1 d1, .slice a2 k2 d2, .slice a3 k3 d3] 76)) h q a1 k1 d1 a2 k2 d2 a3 k3 d3 ks vs cs) := ⟨e1, e2, e3, i1.below hA, i2.below hA, i3.below hA, j1.off2 (by omega) (by omega), j2.off2 (by omega) (by omega), j3.off2 (by omega) (by omega)⟩; have BN := box4_new w1 (.bool false) (.slice a1 k1 d1) (.slice a2 k2 d2) (.slice a3 k3 d3) 76 rfl; have hs1 : wr.heap.size ≤ w1.heap.size := hb.size; replace hbel := Below.tr (Below.tr hbel hb) hA; replace HR : Hid (Reps (w1.alloc (.cells #[.bool false, .slice a1 k1 d1, .slice a2 k2 d2, .slice a3 k3 d3] 76)) h q ms pre) := (HR.out.below hb).below hA; replace HO : Hid ((w1.alloc (.cells #[.bool false, .slice a1 k1 d1, .slice a2 k2 d2, .slice a3 k3 d3] 76)).ownsRow w.heap.size 105 6 (.slice va j vc) j (cellsM ms)) := (Turns.of_below (P := fun _ => False) (Below.tr hb hA)).owns HO.out (fun _ _ x => x); obtain ⟨⟨b0, b1, b2, b3⟩, -⟩ := id BN; clear hA hb e1 e2 e3 i1 i2 i3 j1 j2 j3)
      | (go_at_call 50; refine (cK _ NN.out).mono ?_; rintro z w2 ⟨rfl, hb⟩; replace hbel := Below.tr hbel hb; replace NN : Hid (NodeR w2 h q a1 k1 d1 a2 k2 d2 a3 k3 d3 ks vs cs) := NN.out.below hb; replace HR : Hid (Reps w2 h q ms pre) := HR.out.below hb; replace BN := BN.below hb; replace HO : Hid (w2.ownsRow w.heap.size 105 6 (.slice va j vc) j (cellsM ms)) := (Turns.of_below (P := fun _ => False) hb).owns HO.out (fun _ _ x => x); have hs2 := hb.size; simp at hs2; obtain ⟨g, cap, w3, hrun, own3, bel3, T3, hg3⟩ := HPm.out w2 (a1 := a1) (k1 := k1) (d1 := d1) (a2 := a2) (k2 := k2) (d2 := d2) (a3 := a3) (k3 := k3) (d3 := d3) kk (by omega) HO.out; obtain ⟨R3, F3⟩ := reps_push (m := ⟨blk, false, a1, k1, d1, a2, k2, d2, a3, k3, d3, kk⟩) (s := (blk, (false, ks, vs, cs), kk)) HR.out HF.out rfl rfl rfl NN.out hoff.out T3 hg3; have BN3 := BN.turns T3 (fun e => (by have := hvb _ e; omega)); have HO2 : Hid (w3.ownsRow w.heap.size 105 6 (.slice (some ⟨g, 0, none⟩) (j + 1) cap) (j + 1) (cellsM (ms ++ [⟨blk, false, a1, k1, d1, a2, k2, d2, a3, k3, d3, kk⟩]))) := own3; have HR2 : Hid (Reps w3 h q (ms ++ [⟨blk, false, a1, k1, d1, a2, k2, d2, a3, k3, d3, kk⟩]) (pre ++ [(blk, (false, ks, vs, cs), kk)])) := R3; have HF2 : Hid (Offs (some g) (ms ++ [⟨blk, false, a1, k1, d1, a2, k2, d2, a3, k3, d3, kk⟩]) (pre ++ [(blk, (false, ks, vs, cs), kk)])) := F3; replace hbel := hbel.trans bel3; have I3 : Hid (IsI w3 a3 d3 cs) := NN.out.i3.turnsL T3 (fun hne x hx e => (hoff.out _ e).2.2 hne x hx rfl); have E3 : Hid (k3 = cs.length) := NN.out.e3; clear b0 b1 b2 b3 own3 bel3 R3 F3 T3 hg3; obtain ⟨⟨c0, c1, c2, c3⟩, -⟩ := id BN3; obtain ⟨⟨b0, b1, b2, b3⟩, -⟩ := id BN; clear hb)
      | (at_builtin; refine Lib.wpList_append_run _ rfl _ _ _ _ rfl _ _ rfl rfl _ _ hrun ?_; obtain ⟨bz, oz, ez, hz1, hz2⟩ := I3.out.2.2 kk b' HB'.out.1; subst ez; have hkc : (kk : Int) < k3 := (by rw [E3.out]; have := HB'.out.2; omega); have mk3 : k3 ≤ 9223372036854775807 := (by rw [E3.out]; exact Nat.le_trans I3.out.1 I3.out.2.1); clear hz1))
     go_roundw
     case rel => exact ⟨j + 1, _, _, b', _, _, by go_num, rfl, by omega, by rw [List.length_append, HP.out]; rfl, HDn.out, rfl, HO2.out, HR2.out, HF2.out, hbel⟩
     case measure => simp [intOf]; omega
  ·
   obtain rfl : j = 8 := by omega
   have hDn : D = none := by rw [HDj.out]; rfl
   subst hDn
   go_wp2
   go_ret2
   exact ⟨rfl, hbel⟩
theorem drewN_below (w : World) (n : Nat) {k : Nat} : Below k w (w.drewN n) := by
 induction n generalizing w with
 | zero => exact Below.refl _ _
 | succ n ih => exact (ih w).drew
set_option maxRecDepth 20000 in
set_option maxHeartbeats 2000000 in
theorem equal_one (a : Option Addr) (c n : Nat) (xs : List Int) (g : Nat) (b : Int) (w : World) (hn : n = xs.length) (h : IsI w a c xs) (hb : IsI w (some ⟨g, 0, none⟩) 1 [b]) :
  Calls Tryz.prog 71 #[.slice a n c, .slice (some ⟨g, 0, none⟩) 1 1] w fun e w' => e = .returned (.bool (decide (xs = [b]))) ∧ Below w.heap.size w w' := by
 have mn : n ≤ 9223372036854775807 := by rw [hn]; exact Nat.le_trans h.1 h.2.1
 have HB : Below w.heap.size w w := Below.refl _ _
 by_cases h1 : n = 1
 ·
  subst h1
  obtain ⟨x, rfl⟩ : ∃ x, xs = [x] := by
   cases xs with
   | nil => simp at hn
   | cons x xs => cases xs with | nil => exact ⟨x, rfl⟩ | cons _ _ => simp at hn
  obtain ⟨b1, o1, rfl, -, c1⟩ := h.2.2 0 x rfl
  obtain ⟨b2, o2, e2, -, c2⟩ := hb.2.2 0 b rfl
  cases e2
  simp only [Nat.add_zero] at c1 c2
  have hd : decide ([x] = [b]) = decide (x = b) := decide_eq_decide.2 (by simp)
  rw [hd]
  by_cases hx : x = b
  ·
   subst hx
   rw [decide_eq_true rfl]
   clear h hb hn hd mn
   go_enter Tryz.func71, Tryz.ntmps71
   go_wp2
   go_loopw [13] (fun v wr => ∃ j : Nat, j ≤ 1 ∧ v = .int .i64 j ∧ Below w.heap.size w wr) (fun v _ => 1 - (intOf v).toNat)
   case atStart => exact ⟨0, by omega, rfl, HB⟩
   case round =>
    obtain ⟨j, hj, rfl, hbel⟩ := hrel
    by_cases hlt : j < 1
    ·
     obtain rfl : j = 0 := by omega
     have c1' := cell_below hbel c1
     have c2' := cell_below hbel c2
     go_wp2
     go_quiet (fail)
     have HBq : Below w.heap.size w (wr.drewN nq) := hbel.trans (drewN_below wr nq)
     generalize wr.drewN nq = w2 at HBq ⊢
     go_wp2
     go_roundw
     case rel => exact ⟨1, by omega, by go_num, HBq⟩
     case measure => simp [intOf]
    ·
     obtain rfl : j = 1 := by omega
     go_wp2
     go_ret
     exact ⟨rfl, hbel⟩
  ·
   rw [decide_eq_false hx]
   have hx' : (x == b) = false := by simpa using hx
   clear h hb hn hd mn hx
   go_enter Tryz.func71, Tryz.ntmps71
   go_wp2
   go_loopw [13] (fun v wr => v = .int .i64 0 ∧ Below w.heap.size w wr) (fun v _ => 1 - (intOf v).toNat)
   case atStart => exact ⟨rfl, HB⟩
   case round =>
    obtain ⟨rfl, hbel⟩ := hrel
    have c1' := cell_below hbel c1
    have c2' := cell_below hbel c2
    go_wp2
    go_quiet (fail)
    have HBq : Below w.heap.size w (wr.drewN nq) := hbel.trans (drewN_below wr nq)
    generalize wr.drewN nq = w2 at HBq ⊢
    go_wp2
    go_ret
    exact ⟨rfl, HBq⟩
 ·
  have hf : decide (xs = [b]) = false := decide_eq_false (fun e => h1 (by rw [hn, e]; rfl))
  rw [hf]
  have h1' : ((n : Int) == 1) = false := by rw [beq_eq_false_iff_ne]; omega
  clear h hb hn hf h1
  go_enter Tryz.func71, Tryz.ntmps71
  go_wp2
  go_ret
  exact ⟨rfl, HB⟩
theorem isS_tail {w : World} {a : Option Addr} {c : Nat} {l : List ByteArray} (h : IsS w a c l) (k : Nat) : IsS w (a.map fun x => x.add k) (c - k) (l.drop k) := by
 refine ⟨by rw [List.length_drop]; have := h.1; omega, by have := h.2.1; omega, fun j x hx => ?_⟩
 rw [List.getElem?_drop] at hx
 obtain ⟨b, o, ha, hlt, hc, hs⟩ := h.2.2 (k + j) x hx
 subst ha
 exact ⟨b, o + k, by simp [at_add], hlt, by rw [Nat.add_assoc]; exact hc, hs⟩
theorem isS_end {w : World} {a : Option Addr} {c k : Nat} {l : List ByteArray} (h : IsS w a c l) (hk : k = c) : IsS w a 0 (l.drop k) := by
 have : l.drop k = [] := List.drop_eq_nil_of_le (by have := h.1; omega)
 rw [this]
 exact ⟨Nat.le_refl _, Nat.zero_le _, fun j x hx => by simp at hx⟩
theorem rows3 {W : World} {a a' a'' : Option Addr} {c c' c'' n n' n'' : Nat} {xs ys zs : List ByteArray} (hn : n = xs.length) (hn' : n' = ys.length) (hn'' : n'' = zs.length) (h : IsS W a c xs) (h' : IsS W a' c' ys) (h'' : IsS W a'' c'' zs) :
  RowsS (W.alloc (.cells #[.slice a n c, .slice a' n' c', .slice a'' n'' c''] 25)) W.heap.size [(a, c, xs), (a', c', ys), (a'', c'', zs)] := by
 have hA := (Below.refl W.heap.size W).alloc (Nat.le_refl _) (.cells #[.slice a n c, .slice a' n' c', .slice a'' n'' c''] 25)
 intro i r hr
 match i, hr with
 | 0, hr => cases hr; exact ⟨by rw [hn]; exact World.cell?_alloc_at _ _ _ _ rfl, h.below hA⟩
 | 1, hr => cases hr; exact ⟨by rw [hn']; exact World.cell?_alloc_at _ _ _ _ rfl, h'.below hA⟩
 | 2, hr => cases hr; exact ⟨by rw [hn'']; exact World.cell?_alloc_at _ _ _ _ rfl, h''.below hA⟩
theorem concat3S (W : World) (a a' a'' : Option Addr) (c c' c'' n n' n'' m : Nat) (xs ys zs : List ByteArray) (hn : n = xs.length) (hn' : n' = ys.length) (hn'' : n'' = zs.length) (hm : m = n + (n' + n'')) (h : IsS W a c xs) (h' : IsS W a' c' ys) (h'' : IsS W a'' c'' zs) (h9 : m ≤ 4096) :
  Calls Tryz.prog 85 #[.slice (some ⟨W.heap.size, 0, none⟩) 3 3] (W.alloc (.cells #[.slice a n c, .slice a' n' c', .slice a'' n'' c''] 25)) fun e w' => ∃ b d, e = .returned (.slice b m d) ∧ IsS w' b d (xs ++ (ys ++ zs)) ∧ From W.heap.size b ∧ Below W.heap.size W w' := by
 have hA := (Below.refl W.heap.size W).alloc (Nat.le_refl _) (.cells #[.slice a n c, .slice a' n' c', .slice a'' n'' c''] 25)
 have hf : flatS [(a, c, xs), (a', c', ys), (a'', c'', zs)] = xs ++ (ys ++ zs) := by simp [flatS]
 have hlen : (xs ++ (ys ++ zs)).length = m := by rw [List.length_append, List.length_append]; omega
 have := concatS_any W.heap.size 3 m [(a, c, xs), (a', c', ys), (a'', c'', zs)] _ (rows3 hn hn' hn'' h h' h'') rfl (by rw [hf, hlen]; exact h9) (by omega) (by rw [hf, hlen])
 rw [hf] at this
 exact this.mono fun e w' ⟨b, d, he, hi, hfr, hb⟩ => ⟨b, d, he, hi, hfr.mono (by simp), hA.trans (hb.mono (by simp))⟩
set_option maxRecDepth 20000 in
set_option maxHeartbeats 2000000 in
theorem splicedS_any (a a' : Option Addr) (c c' n n' i j m : Nat) (xs ys : List ByteArray) (w : World) (hn : n = xs.length) (hn' : n' = ys.length) (h : IsS w a c xs) (h' : IsS w a' c' ys) (hij : i ≤ j) (hj : j ≤ n) (hm : m = i + (n' + (n - j))) (h9 : n ≤ 2000) (h9' : n' ≤ 2000) :
  Calls Tryz.prog 68 #[.slice a n c, .int .i64 i, .int .i64 j, .slice a' n' c'] w fun e w' => ∃ b d, e = .returned (.slice b m d) ∧ IsS w' b d (xs.take i ++ (ys ++ xs.drop j)) ∧ From w.heap.size b ∧ Below w.heap.size w w' := by
 have hc1 := h.1
 have hc2 : c ≤ 9223372036854775807 := h.2.1
 have hic : (i : Int) ≤ c := by omega
 have hjn : (j : Int) ≤ n := by omega
 have HB : Below w.heap.size w w := Below.refl _ _
 have hi0 : IsS w a c (xs.take i) := h.take i
 by_cases hjc : c = j
 ·
  subst hjc
  have cC : ∀ V, Below w.heap.size w V → Calls Tryz.prog 85 #[.slice (some ⟨V.heap.size, 0, none⟩) 3 3] (V.alloc (.cells #[.slice a i c, .slice a' n' c', .slice a (n - c) 0] 25)) fun e w' => ∃ b d, e = .returned (.slice b m d) ∧ IsS w' b d (xs.take i ++ (ys ++ xs.drop c)) ∧ From V.heap.size b ∧ Below V.heap.size V w' :=
   fun V hV => concat3S V a a' a c c' 0 i n' (n - c) m (xs.take i) ys (xs.drop c) (by rw [List.length_take]; omega) hn' (by rw [List.length_drop]; omega) hm (hi0.below hV) (h'.below hV) ((isS_end h rfl).below hV) (by omega)
  clear hn hn' h h' hi0 hm
  go_enter Tryz.func68, Tryz.ntmps68
  go_wp2
  go_region_held3 (fun _ => True) (trivial) (first
   | (go_at_call 85; refine (cC w.drew HB.drew).mono ?_; rintro y w1 ⟨b, d, rfl, hi, hf, hb⟩; replace HB := Below.tr HB.drew hb; clear hb))
  go_wp2
  go_ret
  exact ⟨b, d, rfl, hi, hf, HB⟩
 ·
  have cC : ∀ V, Below w.heap.size w V → Calls Tryz.prog 85 #[.slice (some ⟨V.heap.size, 0, none⟩) 3 3] (V.alloc (.cells #[.slice a i c, .slice a' n' c', .slice (a.map fun x => x.add j) (n - j) (c - j)] 25)) fun e w' => ∃ b d, e = .returned (.slice b m d) ∧ IsS w' b d (xs.take i ++ (ys ++ xs.drop j)) ∧ From V.heap.size b ∧ Below V.heap.size V w' :=
   fun V hV => concat3S V a a' _ c c' _ i n' (n - j) m (xs.take i) ys (xs.drop j) (by rw [List.length_take]; omega) hn' (by rw [List.length_drop]; omega) hm (hi0.below hV) (h'.below hV) ((isS_tail h j).below hV) (by omega)
  clear hn hn' h h' hi0 hm
  go_enter Tryz.func68, Tryz.ntmps68
  go_wp2
  go_region_held3 (fun _ => True) (trivial) (first
   | (go_at_call 85; refine (cC w.drew HB.drew).mono ?_; rintro y w1 ⟨b, d, rfl, hi, hf, hb⟩; replace HB := Below.tr HB.drew hb; clear hb))
  go_wp2
  go_ret
  exact ⟨b, d, rfl, hi, hf, HB⟩
set_option maxHeartbeats 2000000 in
set_option maxRecDepth 100000 in
theorem growI_any (n : Nat) (w : World) (h2 : n ≤ 4096) :
  Calls Tryz.prog 131 #[.slice none 0 0, .int .i64 n] w fun e w' => ∃ v, e = .returned v ∧ w'.ownsRow w.heap.size 3 1 v 0 [] ∧ Below w.heap.size w w' := by
 by_cases h0 : n = 0
 ·
  subst h0
  go_enter Tryz.func131, Tryz.ntmps131
  go_wp2
  all_goals (go_ret; exact ⟨_, rfl, World.ownsRow_nil _ _ _ _, Below.refl _ _⟩)
 ·
  have h1 : 1 ≤ n := by omega
  obtain ⟨i0, hi, hz0, hz1, hz2⟩ := info_parts Tryz.info3
  obtain ⟨G, hG⟩ : ∃ G, G = grownCap w n 0 3 := ⟨_, rfl⟩
  obtain ⟨Z, hZ⟩ : ∃ Z, Z = Builtin.zeroCells (Value.int .i64 0).cells n ++ Builtin.zeroCells (Value.int .i64 0).cells (G - n) := ⟨_, rfl⟩
  have hGn : n ≤ G := by rw [hG]; exact grownCap_ge w _ _ _
  have hGm : G ≤ maxLen := by rw [hG]; exact grownCap_le_maxLen w n 0 _ (by unfold maxLen; omega)
  have hZs : Hid (Z.size = G * 1) := by
   show _ = _
   rw [hZ, Array.size_append]
   have hc : (Value.int .i64 0).cells.size = 1 := by rfl
   simp only [Builtin.zeroCells, Array.size_map, Array.size_range, hc]
   omega
  have hrz : ∀ ty, (Builtin.append_ #[38, 3] ty #[.slice none 0 0, .int .i64 n]).run Tryz.prog w = .ok (.slice (some ⟨w.heap.size, 0, none⟩) n G) (w.drew.alloc (.cells Z 3)) := fun ty => by
   have := Lib.run_append_nil_zeros (P := Tryz.prog) w 38 3 ty 3 i0 _ .i64 .i64 Tryz.underlying38 Tryz.underlying3 hi hz0 n (by omega) (by omega) (by omega) (by rw [hz2]; omega)
   rw [← hG, ← hZ] at this
   exact this
  have hG63 : G ≤ 9223372036854775807 := hGm
  have h1' : (1 : Int) ≤ n := by omega
  have h2' : (n : Int) ≤ 4096 := by omega
  clear hZ hG h0
  go_enter Tryz.func131, Tryz.ntmps131
  go_wp2_with (at_builtin; refine Lib.wpList_append_run _ rfl _ _ _ _ rfl _ _ rfl rfl _ _ (hrz _) ?_)
  all_goals (go_ret; exact ⟨_, rfl, ⟨rfl, .inr ⟨w.heap.size, G, Z, rfl, Nat.le_refl _, heap_new w.drew _, Nat.zero_le _, hGm, hZs.out, rfl⟩⟩, (Below.refl _ _).drew.alloc (Nat.le_refl _) _⟩)
set_option maxRecDepth 20000 in
set_option maxHeartbeats 2000000 in
theorem concatI_any (H k n : Nat) (rs : List (Option Addr × Nat × List Int)) (w : World) (hR : RowsI w H rs) (hk : k = rs.length) (hl : (flatI rs).length ≤ 4096) (hk9 : k ≤ 9) (hn : n = (flatI rs).length) :
  Calls Tryz.prog 107 #[.slice (some ⟨H, 0, none⟩) k k] w fun e w' => ∃ a c, e = .returned (.slice a n c) ∧ IsI w' a c (flatI rs) ∧ From w.heap.size a ∧ Below w.heap.size w w' := by
 have HR : Hid (RowsI w H rs) := hR
 have HK : Hid (k = rs.length) := hk
 have HL : Hid ((flatI rs).length ≤ 4096) := hl
 have HN : Hid (n = (flatI rs).length) := hn
 have hn4 : n ≤ 4096 := by omega
 have cG := growI_any n w hn4
 clear hR hk hl hn
 go_enter Tryz.func107, Tryz.ntmps107
 go_wp2
 go_loop [3, 11] (fun s i => ∃ (j m : Nat), j ≤ k ∧ i = .int .i64 j ∧ s = .int .i64 m ∧ m = (flatI (rs.take j)).length) (fun _ i => k - (intOf i).toNat)
 case atStart => exact ⟨0, 0, by omega, rfl, rfl, rfl⟩
 case round =>
  obtain ⟨j, m, hj, rfl, rfl, hm⟩ := hrel
  have HM : Hid (m = (flatI (rs.take j)).length) := hm
  clear hm
  by_cases hlt : j < k
  ·
   have hlt' : (j : Int) < k := by omega
   obtain ⟨r, hr⟩ : ∃ r, rs[j]? = some r := ⟨_, List.getElem?_eq_getElem (by rw [← HK.out]; exact hlt)⟩
   obtain ⟨hc, hI⟩ := HR.out j r hr
   obtain ⟨a, c, ys⟩ := r
   have hf := flatI_take hr
   have hle := flatI_le rs (j + 1)
   simp only at hc hI hf
   obtain ⟨y, hy⟩ : ∃ y, y = ys.length := ⟨_, rfl⟩
   rw [← hy] at hc
   have hle2 := HL.out
   have hsum : m + y ≤ 4096 := by rw [hf, List.length_append, ← HM.out, ← hy] at hle; omega
   have hm' : Hid (m + y = (flatI (rs.take (j + 1))).length) := by show _ = _; rw [hf, List.length_append, ← HM.out, ← hy]
   have hs0 : ¬ ((m : Int) + y) < 0 := by omega
   have hs1 : (m : Int) + y ≤ 4096 := by omega
   clear hr hI hf hle hle2 hy
   go_wp2
   go_round
   case rel => exact ⟨j + 1, m + y, by omega, by go_num, by go_num, hm'.out⟩
   case measure => simp [intOf]; omega
  ·
   obtain rfl : j = k := by omega
   have ht : rs.take j = rs := List.take_of_length_le (by rw [← HK.out]; exact Nat.le_refl _)
   have hmn : m = n := by rw [HM.out, ht, HN.out]
   subst hmn
   clear ht HM
   go_wp2_with (go_at_call 131; refine cG.mono ?_; rintro e w1 ⟨v1, rfl, hown1, hb⟩; clear cG)
   go_loopw [6, 27] (fun v i wr => ∃ i0 : Nat, i0 ≤ j ∧ i = .int .i64 i0 ∧ wr.ownsRow w.heap.size 3 1 v (flatI (rs.take i0)).length ((flatI (rs.take i0)).map (Value.int .i64)) ∧ Below w.heap.size w wr) (fun _ i _ => j - (intOf i).toNat)
   case atStart => exact ⟨0, by omega, rfl, hown1, hb⟩
   case round =>
    obtain ⟨i0, hi0, rfl, hown, hbel⟩ := hrel
    clear hown1 hb
    by_cases hlt2 : i0 < j
    ·
     have hlt2' : (i0 : Int) < j := by omega
     obtain ⟨r, hr⟩ : ∃ r, rs[i0]? = some r := ⟨_, List.getElem?_eq_getElem (by rw [← HK.out]; exact hlt2)⟩
     obtain ⟨hc0, hI⟩ := HR.out i0 r hr
     have hc := cell_below hbel hc0
     obtain ⟨a, c, ys⟩ := r
     have hf := flatI_take hr
     have hle := flatI_le rs (i0 + 1)
     simp only at hc hI hf
     have hle2 := HL.out
     obtain ⟨v', w', hrun, hown', hgr, _⟩ := append_I wr w.heap.size _ _ _ hown hbel.size a c ys.length ys rfl (hI.below hbel) (by rw [hf, List.length_append] at hle; omega)
     have HO : Hid (w'.ownsRow w.heap.size 3 1 v' (flatI (rs.take (i0 + 1))).length ((flatI (rs.take (i0 + 1))).map (Value.int .i64))) := by
      show World.ownsRow _ _ _ _ _ _ _
      rw [hf, List.length_append]; exact hown'
     have HB : Hid (Below w.heap.size w w') := hbel.grown hgr hbel.size fun g hg => (hown.lt g hg).1
     clear hown hown' hgr hr hc0 hI hf hle hle2 hbel
     go_wp2_with (at_builtin; refine Lib.wpList_append_run _ rfl _ _ _ _ rfl _ _ rfl rfl _ _ hrun ?_)
     go_roundw
     case rel => exact ⟨i0 + 1, by omega, by go_num, HO.out, HB.out⟩
     case measure => simp [intOf]; omega
    ·
     obtain rfl : i0 = j := by omega
     have ht : rs.take i0 = rs := List.take_of_length_le (by rw [← HK.out]; exact Nat.le_refl _)
     rw [ht] at hown
     obtain ⟨a, c, rfl, hn, hI, hF⟩ := owns_I hown
     have HI : Hid (IsI wr a c (flatI rs) ∧ From w.heap.size a) := ⟨hI, hF⟩
     clear hown hI hF hn ht
     rw [← HN.out]
     go_wp2
     go_ret
     exact ⟨a, c, rfl, HI.out.1, HI.out.2, hbel⟩
theorem isI_tail {w : World} {a : Option Addr} {c : Nat} {l : List Int} (h : IsI w a c l) (k : Nat) : IsI w (a.map fun x => x.add k) (c - k) (l.drop k) := by
 refine ⟨by rw [List.length_drop]; have := h.1; omega, by have := h.2.1; omega, fun j x hx => ?_⟩
 rw [List.getElem?_drop] at hx
 obtain ⟨b, o, ha, hlt, hc⟩ := h.2.2 (k + j) x hx
 subst ha
 exact ⟨b, o + k, by simp [at_add], hlt, by rw [Nat.add_assoc]; exact hc⟩
theorem isI_end {w : World} {a : Option Addr} {c k : Nat} {l : List Int} (h : IsI w a c l) (hk : k = c) : IsI w a 0 (l.drop k) := by
 have : l.drop k = [] := List.drop_eq_nil_of_le (by have := h.1; omega)
 rw [this]
 exact ⟨Nat.le_refl _, Nat.zero_le _, fun j x hx => by simp at hx⟩
theorem rows3I {W : World} {a a' a'' : Option Addr} {c c' c'' n n' n'' : Nat} {xs ys zs : List Int} (hn : n = xs.length) (hn' : n' = ys.length) (hn'' : n'' = zs.length) (h : IsI W a c xs) (h' : IsI W a' c' ys) (h'' : IsI W a'' c'' zs) :
  RowsI (W.alloc (.cells #[.slice a n c, .slice a' n' c', .slice a'' n'' c''] 38)) W.heap.size [(a, c, xs), (a', c', ys), (a'', c'', zs)] := by
 have hA := (Below.refl W.heap.size W).alloc (Nat.le_refl _) (.cells #[.slice a n c, .slice a' n' c', .slice a'' n'' c''] 38)
 intro i r hr
 match i, hr with
 | 0, hr => cases hr; exact ⟨by rw [hn]; exact World.cell?_alloc_at _ _ _ _ rfl, h.below hA⟩
 | 1, hr => cases hr; exact ⟨by rw [hn']; exact World.cell?_alloc_at _ _ _ _ rfl, h'.below hA⟩
 | 2, hr => cases hr; exact ⟨by rw [hn'']; exact World.cell?_alloc_at _ _ _ _ rfl, h''.below hA⟩
theorem concat3I (W : World) (a a' a'' : Option Addr) (c c' c'' n n' n'' m : Nat) (xs ys zs : List Int) (hn : n = xs.length) (hn' : n' = ys.length) (hn'' : n'' = zs.length) (hm : m = n + (n' + n'')) (h : IsI W a c xs) (h' : IsI W a' c' ys) (h'' : IsI W a'' c'' zs) (h9 : m ≤ 4096) :
  Calls Tryz.prog 107 #[.slice (some ⟨W.heap.size, 0, none⟩) 3 3] (W.alloc (.cells #[.slice a n c, .slice a' n' c', .slice a'' n'' c''] 38)) fun e w' => ∃ b d, e = .returned (.slice b m d) ∧ IsI w' b d (xs ++ (ys ++ zs)) ∧ From W.heap.size b ∧ Below W.heap.size W w' := by
 have hA := (Below.refl W.heap.size W).alloc (Nat.le_refl _) (.cells #[.slice a n c, .slice a' n' c', .slice a'' n'' c''] 38)
 have hf : flatI [(a, c, xs), (a', c', ys), (a'', c'', zs)] = xs ++ (ys ++ zs) := by simp [flatI]
 have hlen : (xs ++ (ys ++ zs)).length = m := by rw [List.length_append, List.length_append]; omega
 have := concatI_any W.heap.size 3 m [(a, c, xs), (a', c', ys), (a'', c'', zs)] _ (rows3I hn hn' hn'' h h' h'') rfl (by rw [hf, hlen]; exact h9) (by omega) (by rw [hf, hlen])
 rw [hf] at this
 exact this.mono fun e w' ⟨b, d, he, hi, hfr, hb⟩ => ⟨b, d, he, hi, hfr.mono (by simp), hA.trans (hb.mono (by simp))⟩
set_option maxRecDepth 20000 in
set_option maxHeartbeats 2000000 in
theorem splicedI_any (a a' : Option Addr) (c c' n n' i j m : Nat) (xs ys : List Int) (w : World) (hn : n = xs.length) (hn' : n' = ys.length) (h : IsI w a c xs) (h' : IsI w a' c' ys) (hij : i ≤ j) (hj : j ≤ n) (hm : m = i + (n' + (n - j))) (h9 : n ≤ 2000) (h9' : n' ≤ 2000) :
  Calls Tryz.prog 88 #[.slice a n c, .int .i64 i, .int .i64 j, .slice a' n' c'] w fun e w' => ∃ b d, e = .returned (.slice b m d) ∧ IsI w' b d (xs.take i ++ (ys ++ xs.drop j)) ∧ From w.heap.size b ∧ Below w.heap.size w w' := by
 have hc1 := h.1
 have hc2 : c ≤ 9223372036854775807 := h.2.1
 have hic : (i : Int) ≤ c := by omega
 have hjn : (j : Int) ≤ n := by omega
 have HB : Below w.heap.size w w := Below.refl _ _
 have hi0 : IsI w a c (xs.take i) := h.take i
 by_cases hjc : c = j
 ·
  subst hjc
  have cC : ∀ V, Below w.heap.size w V → Calls Tryz.prog 107 #[.slice (some ⟨V.heap.size, 0, none⟩) 3 3] (V.alloc (.cells #[.slice a i c, .slice a' n' c', .slice a (n - c) 0] 38)) fun e w' => ∃ b d, e = .returned (.slice b m d) ∧ IsI w' b d (xs.take i ++ (ys ++ xs.drop c)) ∧ From V.heap.size b ∧ Below V.heap.size V w' :=
   fun V hV => concat3I V a a' a c c' 0 i n' (n - c) m (xs.take i) ys (xs.drop c) (by rw [List.length_take]; omega) hn' (by rw [List.length_drop]; omega) hm (hi0.below hV) (h'.below hV) ((isI_end h rfl).below hV) (by omega)
  clear hn hn' h h' hi0 hm
  go_enter Tryz.func88, Tryz.ntmps88
  go_wp2
  go_region_held3 (fun _ => True) (trivial) (first
   | (go_at_call 107; refine (cC w.drew HB.drew).mono ?_; rintro y w1 ⟨b, d, rfl, hi, hf, hb⟩; replace HB := Below.tr HB.drew hb; clear hb))
  go_wp2
  go_ret
  exact ⟨b, d, rfl, hi, hf, HB⟩
 ·
  have cC : ∀ V, Below w.heap.size w V → Calls Tryz.prog 107 #[.slice (some ⟨V.heap.size, 0, none⟩) 3 3] (V.alloc (.cells #[.slice a i c, .slice a' n' c', .slice (a.map fun x => x.add j) (n - j) (c - j)] 38)) fun e w' => ∃ b d, e = .returned (.slice b m d) ∧ IsI w' b d (xs.take i ++ (ys ++ xs.drop j)) ∧ From V.heap.size b ∧ Below V.heap.size V w' :=
   fun V hV => concat3I V a a' _ c c' _ i n' (n - j) m (xs.take i) ys (xs.drop j) (by rw [List.length_take]; omega) hn' (by rw [List.length_drop]; omega) hm (hi0.below hV) (h'.below hV) ((isI_tail h j).below hV) (by omega)
  clear hn hn' h h' hi0 hm
  go_enter Tryz.func88, Tryz.ntmps88
  go_wp2
  go_region_held3 (fun _ => True) (trivial) (first
   | (go_at_call 107; refine (cC w.drew HB.drew).mono ?_; rintro y w1 ⟨b, d, rfl, hi, hf, hb⟩; replace HB := Below.tr HB.drew hb; clear hb))
  go_wp2
  go_ret
  exact ⟨b, d, rfl, hi, hf, HB⟩
end Go.Proofs.YtaecfbfcjaailaaGreat
namespace Go.Proofs.YtaecfbfcjaailaaGreat
open Go.RowKit Plain Anylast
set_option linter.unusedVariables false
def TwoS (B : Nat) (r1 r2 : Value) (v : Value) (w : World) : Prop := ∃ g, v = .slice (some ⟨g, 0, none⟩) 2 2 ∧ B ≤ g ∧ w.cell? ⟨g, 0, none⟩ = some r1 ∧ w.cell? ⟨g, 1, none⟩ = some r2
def GotS (B n : Nat) (xs : List ByteArray) (v : Value) (w : World) : Prop := ∃ p q, v = .slice p n q ∧ IsS w p q xs ∧ From B p
def GotI (B n : Nat) (xs : List Int) (v : Value) (w : World) : Prop := ∃ p q, v = .slice p n q ∧ IsI w p q xs ∧ From B p
theorem TwoS.turns {B h : Nat} {r1 r2 v : Value} {w w' : World} (hs : TwoS B r1 r2 v w) (hh : h < B) (t : Turns (fun k => k = h) w w') : TwoS B r1 r2 v w' := by
 obtain ⟨g, h1, h2, h3, h4⟩ := hs
 exact ⟨g, h1, h2, t.cell (p := ⟨g, 0, none⟩) (by show ¬ g = h; omega) h3, t.cell (p := ⟨g, 1, none⟩) (by show ¬ g = h; omega) h4⟩
theorem GotS.turns {B n h : Nat} {xs : List ByteArray} {v : Value} {w w' : World} (hs : GotS B n xs v w) (hh : h < B) (t : Turns (fun k => k = h) w w') : GotS B n xs v w' := by
 obtain ⟨p, q, h1, h2, h3⟩ := hs
 exact ⟨p, q, h1, h2.turns t (fun x hx e => by have := h3 x hx; omega), h3⟩
theorem GotI.turns {B n h : Nat} {xs : List Int} {v : Value} {w w' : World} (hs : GotI B n xs v w) (hh : h < B) (t : Turns (fun k => k = h) w w') : GotI B n xs v w' := by
 obtain ⟨p, q, h1, h2, h3⟩ := hs
 exact ⟨p, q, h1, h2.turns t (fun x hx e => by have := h3 x hx; omega), h3⟩
def LeafT (h8 B n n' : Nat) (xs ys : List ByteArray) (W w : World) : Prop :=
 ∃ u u', Box4 w h8 (.bool true) u u' (.slice none 0 0) ∧ GotS B n xs u w ∧ GotS B n' ys u' w ∧ Turns (fun k => k = h8) W w
theorem op_skip {P : Program} {ops : Array Oper} {Q : Exit → Act → World → Prop} {i : Nat} {o : Oper} {a : Act} {w w' : World} {V : Nat → Value → World → Prop} {S : World → Prop} {R : World → World → Prop} (hi : ops[i]? = some o) (hw : Region.wanted o (yielded ops a.tmps) = true) (hd : o.dst = none)
  (hr : (execOp a.eval o).run P w = .ok .skip w') (hV : V i undef w') (hS : S w') (hR : R w w') :
  wpOp P ops Q i (fun a' w' => ∃ v, a' = a.put o.dst v ∧ V i v w' ∧ S w' ∧ R w w') a w := by
 unfold wpOp
 simp only [hi, hw, if_true]
 refine .inl ?_
 unfold Oper.wp
 rw [hr]
 refine ⟨undef, ?_, hV, hS, hR⟩
 rw [hd]
def Cells6 (w : World) (h : Nat) (v0 v1 v2 v3 v4 v5 : Value) : Prop :=
 w.cell? ⟨h, 0, none⟩ = some v0 ∧ w.cell? ⟨h, 1, none⟩ = some v1 ∧ w.cell? ⟨h, 2, none⟩ = some v2 ∧ w.cell? ⟨h, 3, none⟩ = some v3 ∧ w.cell? ⟨h, 4, none⟩ = some v4 ∧ w.cell? ⟨h, 5, none⟩ = some v5
theorem cells6_new (w : World) (v0 v1 v2 v3 v4 v5 : Value) (t : TypeId) {h : Nat} (hh : h = w.heap.size) : Cells6 (w.alloc (.cells #[v0, v1, v2, v3, v4, v5] t)) h v0 v1 v2 v3 v4 v5 := by
 subst hh
 exact ⟨World.cell?_alloc_at _ _ _ _ rfl, World.cell?_alloc_at _ _ _ _ rfl, World.cell?_alloc_at _ _ _ _ rfl, World.cell?_alloc_at _ _ _ _ rfl, World.cell?_alloc_at _ _ _ _ rfl, World.cell?_alloc_at _ _ _ _ rfl⟩
theorem Cells6.below {w w' : World} {h : Nat} {v0 v1 v2 v3 v4 v5 : Value} (x : Cells6 w h v0 v1 v2 v3 v4 v5) (hb : Below w.heap.size w w') : Cells6 w' h v0 v1 v2 v3 v4 v5 := by
 obtain ⟨h0, h1, h2, h3, h4, h5⟩ := x
 exact ⟨cell_below hb h0, cell_below hb h1, cell_below hb h2, cell_below hb h3, cell_below hb h4, cell_below hb h5⟩
def rowV9 (z2 z3 B m1 m2 : Nat) (i : Int) (r1 r2 s1 s2 : Value) (xs : List ByteArray) (ys : List Int) (o : Nat) (v : Value) (w : World) : Prop :=
 match o with
 | 0 => v = .pointer (some ⟨z2, 1, none⟩)
 | 1 => v = .pointer (some ⟨z2, 2, none⟩)
 | 2 => v = r1
 | 3 => v = .pointer (some ⟨z2, 5, none⟩)
 | 4 => v = .int .i64 i
 | 5 => v = .pointer (some ⟨z2, 5, none⟩)
 | 6 => v = .int .i64 i
 | 7 => v = .pointer (some ⟨z3, 1, none⟩)
 | 8 => v = s1
 | 9 => GotS B m1 xs v w
 | 10 => v = .pointer (some ⟨z2, 1, none⟩)
 | 11 => v = .pointer (some ⟨z2, 4, none⟩)
 | 12 => v = r2
 | 13 => v = .pointer (some ⟨z2, 5, none⟩)
 | 14 => v = .int .i64 i
 | 15 => v = .pointer (some ⟨z2, 5, none⟩)
 | 16 => v = .int .i64 i
 | 17 => v = .int .i64 (i + 1)
 | 18 => v = .pointer (some ⟨z3, 3, none⟩)
 | 19 => v = s2
 | 20 => GotI B m2 ys v w
 | 21 => ∃ u u', v = .agg #[.bool false, u, .slice none 0 0, u'] ∧ GotS B m1 xs u w ∧ GotI B m2 ys u' w
 | _ => True
def InnT (h8 B n n' : Nat) (xs : List ByteArray) (ys : List Int) (W w : World) : Prop :=
 ∃ u u', Box4 w h8 (.bool false) u (.slice none 0 0) u' ∧ GotS B n xs u w ∧ GotI B n' ys u' w ∧ Turns (fun k => k = h8) W w
theorem rowV9_mono {z2 z3 B m1 m2 h : Nat} {i : Int} {r1 r2 s1 s2 : Value} {xs : List ByteArray} {ys : List Int} (hh : h < B) (o : Nat) (v : Value) (w w' : World) (t : Turns (fun k => k = h) w w') (hv : rowV9 z2 z3 B m1 m2 i r1 r2 s1 s2 xs ys o v w) : rowV9 z2 z3 B m1 m2 i r1 r2 s1 s2 xs ys o v w' := by
 unfold rowV9 at hv ⊢
 split at hv <;> first
  | exact hv
  | exact hv.turns hh t
  | (obtain ⟨u, u', h1, h2, h3⟩ := hv; exact ⟨u, u', h1, h2.turns hh t, h3.turns hh t⟩)
set_option maxRecDepth 20000 in
set_option maxHeartbeats 4000000 in
theorem withRow_any (block : Int) (l : Bool) (a a' a'' e e' e'' : Option Addr) (c c' c'' n n' n'' d d' d'' k k' k'' i m1 m2 : Nat) (ks rk : List ByteArray) (cs rc : List Int) (w : World) (hn : n = ks.length) (hn'' : n'' = cs.length) (hK : IsS w a c ks) (hC : IsI w a'' c'' cs)
  (hk : k = rk.length) (hk'' : k'' = rc.length) (hR : IsS w e d rk) (hS' : IsI w e'' d'' rc) (hi : i ≤ n) (hic : i + 1 ≤ n'') (h9 : n ≤ 100) (h9' : n'' ≤ 100) (h9k : k ≤ 100) (h9k' : k'' ≤ 100) (hm1 : m1 = (ks.take i ++ (rk ++ ks.drop i)).length) (hm2 : m2 = (cs.take i ++ (rc ++ cs.drop (i + 1))).length) :
  Calls Tryz.prog 72 #[.agg #[.int .i64 block, .bool l, .slice a n c, .slice a' n' c', .slice a'' n'' c'', .int .i64 i], .agg #[.bool false, .slice e k d, .slice e' k' d', .slice e'' k'' d'']] w fun x w' => ∃ x1 y1 x2 y2, x = .returned (.agg #[.bool false, .slice x1 m1 y1, .slice none 0 0, .slice x2 m2 y2]) ∧ IsS w' x1 y1 (ks.take i ++ (rk ++ ks.drop i)) ∧ IsI w' x2 y2 (cs.take i ++ (rc ++ cs.drop (i + 1))) ∧ From w.heap.size x1 ∧ From w.heap.size x2 ∧ Below w.heap.size w w' := by
 obtain ⟨W, hW⟩ : ∃ W, W = ((w.alloc (.cells #[.int .i64 block, .bool l, .slice a n c, .slice a' n' c', .slice a'' n'' c'', .int .i64 i] 105)).alloc (.cells #[.bool false, .slice e k d, .slice e' k' d', .slice e'' k'' d''] 76)).alloc (.cells #[.bool false, .slice none 0 0, .slice none 0 0, .slice none 0 0] 76) := ⟨_, rfl⟩
 have A2 : Cells6 W w.heap.size (.int .i64 block) (.bool l) (.slice a n c) (.slice a' n' c') (.slice a'' n'' c'') (.int .i64 i) := by rw [hW]; exact ((cells6_new _ _ _ _ _ _ _ _ rfl).below ((Below.refl _ _).alloc (Nat.le_refl _) _)).below ((Below.refl _ _).alloc (Nat.le_refl _) _)
 have A3 : Box4 W (w.heap.size + 1) (.bool false) (.slice e k d) (.slice e' k' d') (.slice e'' k'' d'') := by rw [hW]; exact (box4_new _ _ _ _ _ _ (by simp)).alloc _
 have A4 : Box4 W (w.heap.size + 2) (.bool false) (.slice none 0 0) (.slice none 0 0) (.slice none 0 0) := by rw [hW]; exact box4_new _ _ _ _ _ _ (by simp)
 have HB : Below w.heap.size w W := by rw [hW]; exact (((Below.refl _ _).alloc (Nat.le_refl _) _).alloc (by simp) _).alloc (by simp; omega) _
 have cK : ∀ V, Below w.heap.size w V → Calls Tryz.prog 68 #[.slice a n c, .int .i64 i, .int .i64 i, .slice e k d] V fun x w' => ∃ b d, x = .returned (.slice b m1 d) ∧ IsS w' b d (ks.take i ++ (rk ++ ks.drop i)) ∧ From V.heap.size b ∧ Below V.heap.size V w' := fun V h =>
  splicedS_any a e c d n k i i m1 ks rk V hn hk (hK.below h) (hR.below h) (Nat.le_refl _) hi (by rw [hm1]; simp only [List.length_append, List.length_take, List.length_drop]; omega) (by omega) (by omega)
 have cC : ∀ V, Below w.heap.size w V → Calls Tryz.prog 88 #[.slice a'' n'' c'', .int .i64 i, .int .i64 ((i : Int) + 1), .slice e'' k'' d''] V fun x w' => ∃ b d, x = .returned (.slice b m2 d) ∧ IsI w' b d (cs.take i ++ (rc ++ cs.drop (i + 1))) ∧ From V.heap.size b ∧ Below V.heap.size V w' := fun V h =>
  splicedI_any a'' e'' c'' d'' n'' k'' i (i + 1) m2 cs rc V hn'' hk'' (hC.below h) (hS'.below h) (by omega) hic (by rw [hm2]; simp only [List.length_append, List.length_take, List.length_drop]; omega) (by omega) (by omega)
 generalize ks.take i ++ (rk ++ ks.drop i) = XS at *
 generalize cs.take i ++ (rc ++ cs.drop (i + 1)) = YS at *
 have hwr : IntKind.i64.wrap ((i : Int) + 1) = (i : Int) + 1 := i64_in _ (by omega) (by omega)
 obtain ⟨V0, hV0⟩ : ∃ V, V = W.drew := ⟨_, rfl⟩
 replace HB : Below w.heap.size w V0 := by rw [hV0]; exact HB.drew
 have hWd : Below W.heap.size W V0 := by rw [hV0]; exact (Below.refl _ _).drew
 replace A2 := A2.below hWd
 replace A3 := A3.below hWd
 replace A4 := A4.below hWd
 clear hn hn'' hK hC hk hk'' hR hS' hi hic h9 h9' h9k h9k' hm1 hm2 hWd
 go_enter Tryz.func72, Tryz.ntmps72
 go_wp2
 rw [← hW]
 generalize e4 : w.heap.size + 1 + 1 = z4
 generalize e3 : w.heap.size + 1 = z3
 generalize e2 : w.heap.size = z2
 replace A2 : Cells6 V0 z2 (.int .i64 block) (.bool l) (.slice a n c) (.slice a' n' c') (.slice a'' n'' c'') (.int .i64 i) := by rw [← e2]; exact A2
 replace A3 : Box4 V0 z3 (.bool false) (.slice e k d) (.slice e' k' d') (.slice e'' k'' d'') := by rw [← e3]; exact A3
 replace A4 : Box4 V0 z4 (.bool false) (.slice none 0 0) (.slice none 0 0) (.slice none 0 0) := by rw [← e4]; exact A4
 have hle4w : w.heap.size ≤ z4 := by omega
 have E2 : Hid (w.heap.size = z2) := e2
 have HV0 : Hid (V0 = W.drew) := hV0
 clear e2 e3 e4 hV0 hW
 have z4B : z4 < V0.heap.size := A4.lt
 refine region_last (by kernel_rfl) 22 (rowV9 z2 z3 V0.heap.size m1 m2 (i : Int) (.slice a n c) (.slice a'' n'' c'') (.slice e k d) (.slice e'' k'' d'') XS YS) (fun u => Below V0.heap.size V0 u) (InnT z4 V0.heap.size m1 m2 XS YS V0) (fun u u' => Turns (fun k => k = z4) u u') (by kernel_rfl) (by kernel_rfl) (fun i v u u' t hv => rowV9_mono z4B i v u u' t hv) (by rw [← HV0.out]; exact Below.refl _ _) ?step ?done
 case step =>
  intro o op ho ac u hS hdf hsz hdep hsame
  have B2 := A2.below hS
  have B3 := A3.below hS
  have B4 := A4.below hS
  have hsz0 : V0.heap.size ≤ u.heap.size := hS.size
  have HU : Hid (Below w.heap.size w u) := Below.tr HB hS
  obtain ⟨q0, q1, q2, q3, q4, q5⟩ := id B2
  obtain ⟨⟨p0, p1, p2, p3⟩, -⟩ := id B3
  obtain ⟨⟨r0, r1, r2, r3⟩, g0, g1, g2, g3⟩ := id B4
  match o, ho with
  | 0, ho =>
   cases ho
   have h2 := hsame 2 rfl
   exact op_value rfl (wanted_free rfl) (by clear hdep hsame hsz hdf; go_simp) rfl (by rw [if_neg (by decide)]; exact hS) (Turns.refl _ _)
  | 1, ho =>
   cases ho
   obtain ⟨_, h5, rfl⟩ := hdep 0 _ 5 rfl rfl rfl
   exact op_value rfl (wanted_free rfl) (by clear hdep hsame hsz hdf; go_simp) rfl (by rw [if_neg (by decide)]; exact hS) (Turns.refl _ _)
  | 2, ho =>
   cases ho
   obtain ⟨_, h6, rfl⟩ := hdep 1 _ 6 rfl rfl rfl
   exact op_value rfl (wanted_free rfl) (by clear hdep hsame hsz hdf; go_simp) rfl (by rw [if_neg (by decide)]; exact hS) (Turns.refl _ _)
  | 3, ho =>
   cases ho
   have h2 := hsame 2 rfl
   exact op_value rfl (wanted_free rfl) (by clear hdep hsame hsz hdf; go_simp) rfl (by rw [if_neg (by decide)]; exact hS) (Turns.refl _ _)
  | 4, ho =>
   cases ho
   obtain ⟨_, h8, rfl⟩ := hdep 3 _ 8 rfl rfl rfl
   exact op_value rfl (wanted_free rfl) (by clear hdep hsame hsz hdf; go_simp) rfl (by rw [if_neg (by decide)]; exact hS) (Turns.refl _ _)
  | 5, ho =>
   cases ho
   have h2 := hsame 2 rfl
   exact op_value rfl (wanted_free rfl) (by clear hdep hsame hsz hdf; go_simp) rfl (by rw [if_neg (by decide)]; exact hS) (Turns.refl _ _)
  | 6, ho =>
   cases ho
   obtain ⟨_, h10, rfl⟩ := hdep 5 _ 10 rfl rfl rfl
   exact op_value rfl (wanted_free rfl) (by clear hdep hsame hsz hdf; go_simp) rfl (by rw [if_neg (by decide)]; exact hS) (Turns.refl _ _)
  | 7, ho =>
   cases ho
   have h3 := hsame 3 rfl
   exact op_value rfl (wanted_free rfl) (by clear hdep hsame hsz hdf; go_simp) rfl (by rw [if_neg (by decide)]; exact hS) (Turns.refl _ _)
  | 8, ho =>
   cases ho
   obtain ⟨_, h12, rfl⟩ := hdep 7 _ 12 rfl rfl rfl
   exact op_value rfl (wanted_free rfl) (by clear hdep hsame hsz hdf; go_simp) rfl (by rw [if_neg (by decide)]; exact hS) (Turns.refl _ _)
  | 9, ho =>
   cases ho
   obtain ⟨_, h7, rfl⟩ := hdep 2 _ 7 rfl rfl rfl
   obtain ⟨_, h9, rfl⟩ := hdep 4 _ 9 rfl rfl rfl
   obtain ⟨_, h11, rfl⟩ := hdep 6 _ 11 rfl rfl rfl
   obtain ⟨_, h13, rfl⟩ := hdep 8 _ 13 rfl rfl rfl
   refine op_call (w' := u) rfl (wanted_free rfl) (by clear hdep hsame hsz hdf; go_simp) ((cK u HU.out).mono ?_)
   rintro y u' ⟨p, q, rfl, i1, j1, hb⟩
   exact ⟨_, rfl, ⟨p, q, rfl, i1, j1.mono hsz0⟩, by rw [if_neg (by decide)]; exact hS.trans (hb.mono hsz0), Turns.of_below hb⟩
  | 10, ho =>
   cases ho
   have h2 := hsame 2 rfl
   exact op_value rfl (wanted_free rfl) (by clear hdep hsame hsz hdf; go_simp) rfl (by rw [if_neg (by decide)]; exact hS) (Turns.refl _ _)
  | 11, ho =>
   cases ho
   obtain ⟨_, h15, rfl⟩ := hdep 10 _ 15 rfl rfl rfl
   exact op_value rfl (wanted_free rfl) (by clear hdep hsame hsz hdf; go_simp) rfl (by rw [if_neg (by decide)]; exact hS) (Turns.refl _ _)
  | 12, ho =>
   cases ho
   obtain ⟨_, h16, rfl⟩ := hdep 11 _ 16 rfl rfl rfl
   exact op_value rfl (wanted_free rfl) (by clear hdep hsame hsz hdf; go_simp) rfl (by rw [if_neg (by decide)]; exact hS) (Turns.refl _ _)
  | 13, ho =>
   cases ho
   have h2 := hsame 2 rfl
   exact op_value rfl (wanted_free rfl) (by clear hdep hsame hsz hdf; go_simp) rfl (by rw [if_neg (by decide)]; exact hS) (Turns.refl _ _)
  | 14, ho =>
   cases ho
   obtain ⟨_, h18, rfl⟩ := hdep 13 _ 18 rfl rfl rfl
   exact op_value rfl (wanted_free rfl) (by clear hdep hsame hsz hdf; go_simp) rfl (by rw [if_neg (by decide)]; exact hS) (Turns.refl _ _)
  | 15, ho =>
   cases ho
   have h2 := hsame 2 rfl
   exact op_value rfl (wanted_free rfl) (by clear hdep hsame hsz hdf; go_simp) rfl (by rw [if_neg (by decide)]; exact hS) (Turns.refl _ _)
  | 16, ho =>
   cases ho
   obtain ⟨_, h20, rfl⟩ := hdep 15 _ 20 rfl rfl rfl
   exact op_value rfl (wanted_free rfl) (by clear hdep hsame hsz hdf; go_simp) rfl (by rw [if_neg (by decide)]; exact hS) (Turns.refl _ _)
  | 17, ho =>
   cases ho
   obtain ⟨_, h21, rfl⟩ := hdep 16 _ 21 rfl rfl rfl
   exact op_value rfl (wanted_free rfl) (by clear hdep hsame hsz hdf; go_simp) rfl (by rw [if_neg (by decide)]; exact hS) (Turns.refl _ _)
  | 18, ho =>
   cases ho
   have h3 := hsame 3 rfl
   exact op_value rfl (wanted_free rfl) (by clear hdep hsame hsz hdf; go_simp) rfl (by rw [if_neg (by decide)]; exact hS) (Turns.refl _ _)
  | 19, ho =>
   cases ho
   obtain ⟨_, h23, rfl⟩ := hdep 18 _ 23 rfl rfl rfl
   exact op_value rfl (wanted_free rfl) (by clear hdep hsame hsz hdf; go_simp) rfl (by rw [if_neg (by decide)]; exact hS) (Turns.refl _ _)
  | 20, ho =>
   cases ho
   obtain ⟨_, h17, rfl⟩ := hdep 12 _ 17 rfl rfl rfl
   obtain ⟨_, h19, rfl⟩ := hdep 14 _ 19 rfl rfl rfl
   obtain ⟨_, h22, rfl⟩ := hdep 17 _ 22 rfl rfl rfl
   obtain ⟨_, h24, rfl⟩ := hdep 19 _ 24 rfl rfl rfl
   refine op_call (w' := u) rfl (wanted_free rfl) (by clear hdep hsame hsz hdf; go_simp) ((cC u HU.out).mono ?_)
   rintro y u' ⟨p, q, rfl, i1, j1, hb⟩
   exact ⟨_, rfl, ⟨p, q, rfl, i1, j1.mono hsz0⟩, by rw [if_neg (by decide)]; exact hS.trans (hb.mono hsz0), Turns.of_below hb⟩
  | 21, ho =>
   cases ho
   obtain ⟨_, h14, G1⟩ := hdep 9 _ 14 rfl rfl rfl
   obtain ⟨_, h25, G2⟩ := hdep 20 _ 25 rfl rfl rfl
   obtain ⟨x1, y1, rfl, i1, j1⟩ := id G1
   obtain ⟨x2, y2, rfl, i2, j2⟩ := id G2
   exact op_value (v := .agg #[.bool false, .slice x1 m1 y1, .slice none 0 0, .slice x2 m2 y2]) rfl (wanted_free rfl) (by clear hdep hsame hsz hdf G1 G2 i1 i2 j1 j2; go_simp) ⟨_, _, rfl, G1, G2⟩ (by rw [if_neg (by decide)]; exact hS) (Turns.refl _ _)
  | 22, ho =>
   cases ho
   have h4 := hsame 4 rfl
   obtain ⟨_, h26, u1, u2, rfl, G1, G2⟩ := hdep 21 _ 26 rfl rfl rfl
   obtain ⟨x1, y1, rfl, i1, j1⟩ := id G1
   obtain ⟨x2, y2, rfl, i2, j2⟩ := id G2
   have T4 := turns_put4 u z4 (.bool false) (.slice x1 m1 y1) (.slice none 0 0) (.slice x2 m2 y2)
   have HT : InnT z4 V0.heap.size m1 m2 XS YS V0 ((((u.setCell ⟨z4, 0, none⟩ (.bool false)).setCell ⟨z4, 1, none⟩ (.slice x1 m1 y1)).setCell ⟨z4, 2, none⟩ (.slice none 0 0)).setCell ⟨z4, 3, none⟩ (.slice x2 m2 y2)) := ⟨_, _, B4.put _ _ _ _, G1.turns z4B T4, G2.turns z4B T4, (Turns.of_below hS).trans T4⟩
   exact op_skip rfl (wanted_free rfl) rfl (by clear hdep hsame hsz hdf G1 G2 i1 i2 j1 j2 T4 HT; go_simp) trivial (by rw [if_pos rfl]; exact HT) T4
  | k + 23, ho => simp at ho
 case done =>
  intro ac W3 hT hdf hsz hsame hval
  obtain ⟨v5, h5, hv5⟩ := hval 0 _ 5 rfl rfl
  obtain ⟨v6, h6, hv6⟩ := hval 1 _ 6 rfl rfl
  obtain ⟨v7, h7, hv7⟩ := hval 2 _ 7 rfl rfl
  obtain ⟨v8, h8, hv8⟩ := hval 3 _ 8 rfl rfl
  obtain ⟨v9, h9, hv9⟩ := hval 4 _ 9 rfl rfl
  obtain ⟨v10, h10, hv10⟩ := hval 5 _ 10 rfl rfl
  obtain ⟨v11, h11, hv11⟩ := hval 6 _ 11 rfl rfl
  obtain ⟨v12, h12, hv12⟩ := hval 7 _ 12 rfl rfl
  obtain ⟨v13, h13, hv13⟩ := hval 8 _ 13 rfl rfl
  obtain ⟨v14, h14, hv14⟩ := hval 9 _ 14 rfl rfl
  obtain ⟨v15, h15, hv15⟩ := hval 10 _ 15 rfl rfl
  obtain ⟨v16, h16, hv16⟩ := hval 11 _ 16 rfl rfl
  obtain ⟨v17, h17, hv17⟩ := hval 12 _ 17 rfl rfl
  obtain ⟨v18, h18, hv18⟩ := hval 13 _ 18 rfl rfl
  obtain ⟨v19, h19, hv19⟩ := hval 14 _ 19 rfl rfl
  obtain ⟨v20, h20, hv20⟩ := hval 15 _ 20 rfl rfl
  obtain ⟨v21, h21, hv21⟩ := hval 16 _ 21 rfl rfl
  obtain ⟨v22, h22, hv22⟩ := hval 17 _ 22 rfl rfl
  obtain ⟨v23, h23, hv23⟩ := hval 18 _ 23 rfl rfl
  obtain ⟨v24, h24, hv24⟩ := hval 19 _ 24 rfl rfl
  obtain ⟨v25, h25, hv25⟩ := hval 20 _ 25 rfl rfl
  obtain ⟨v26, h26, hv26⟩ := hval 21 _ 26 rfl rfl
  obtain rfl := Anyorder.frame_is (l := [_, _, _, _, _, _, _, _, _, _, _, _, _, _, _, _, _, _, _, _, _, _, _, _, _, _, _]) ⟨(hsame 0 (Anyorder.unwritten (by kernel_rfl))).trans rfl, (hsame 1 (Anyorder.unwritten (by kernel_rfl))).trans rfl, (hsame 2 (Anyorder.unwritten (by kernel_rfl))).trans rfl, (hsame 3 (Anyorder.unwritten (by kernel_rfl))).trans rfl, (hsame 4 (Anyorder.unwritten (by kernel_rfl))).trans rfl, h5, h6, h7, h8, h9, h10, h11, h12, h13, h14, h15, h16, h17, h18, h19, h20, h21, h22, h23, h24, h25, h26, trivial⟩ hdf hsz
  obtain ⟨u1, u2, X4, ⟨x1, y1, rfl, i1, j1⟩, ⟨x2, y2, rfl, i2, j2⟩, T3⟩ := hT
  have hle4 : w.heap.size ≤ V0.heap.size := HB.size
  have B5 : Below w.heap.size w W3 := Below.turns HB T3 (fun k hk => by omega)
  obtain ⟨⟨r0, r1, r2, r3⟩, -⟩ := X4
  clear hval hsame hsz hdf A2 A3 A4 HB T3
  go_wp2
  exact bodyPost_ret (v := .agg #[.bool false, .slice x1 m1 y1, .slice none 0 0, .slice x2 m2 y2]) (by simp [results, Tryz.results72, go_sem, r0, r1, r2, r3]) rfl ⟨x1, y1, x2, y2, rfl, i1, i2, by first | exact j1.mono hle4 | (rw [← E2.out]; exact j1.mono hle4), by first | exact j2.mono hle4 | (rw [← E2.out]; exact j2.mono hle4), by first | exact B5 | (rw [← E2.out]; exact B5)⟩
end Go.Proofs.YtaecfbfcjaailaaGreat
namespace Go.Proofs.YtaecfbfcjaailaaGreat
open Go.RowKit Plain
set_option linter.unusedVariables false
def WayIn (w : World) (g : Nat) (ms : List MStep) : Prop := ∀ (j : Nat) (m : MStep), ms[j]? = some m → w.cell? ⟨g, j * 6, none⟩ = some (.int .i64 m.block) ∧ w.cell? ⟨g, j * 6 + 1, none⟩ = some (.bool m.l) ∧ w.cell? ⟨g, j * 6 + 2, none⟩ = some (.slice m.a1 m.k1 m.d1) ∧ w.cell? ⟨g, j * 6 + 3, none⟩ = some (.slice m.a2 m.k2 m.d2) ∧ w.cell? ⟨g, j * 6 + 4, none⟩ = some (.slice m.a3 m.k3 m.d3) ∧ w.cell? ⟨g, j * 6 + 5, none⟩ = some (.int .i64 m.kid)
theorem owned_way {w : World} {B g n cap : Nat} {ms : List MStep} (h : w.ownsRow B 105 6 (.slice (some ⟨g, 0, none⟩) n cap) n (cellsM ms)) : WayIn w g ms := by
 intro j m hm
 have at_ : ∀ t v, t < 6 → m.cells[t]? = some v → w.cell? ⟨g, j * 6 + t, none⟩ = some v := fun t v ht hv => by
  have := h.cells (g := g) rfl (j * 6 + t) v (by rw [cellsM_at hm t ht]; exact hv)
  rw [at_add] at this
  simpa using this
 exact ⟨at_ 0 _ (by omega) rfl, at_ 1 _ (by omega) rfl, at_ 2 _ (by omega) rfl, at_ 3 _ (by omega) rfl, at_ 4 _ (by omega) rfl, at_ 5 _ (by omega) rfl⟩
theorem WayIn.turns {P : Nat → Prop} {w w' : World} {g : Nat} {ms : List MStep} (h : WayIn w g ms) (t : Turns P w w') (hp : ¬ P g) : WayIn w' g ms := by
 intro j m hm
 obtain ⟨h0, h1, h2, h3, h4, h5⟩ := h j m hm
 exact ⟨t.cell (p := ⟨g, j * 6, none⟩) hp h0, t.cell (p := ⟨g, j * 6 + 1, none⟩) hp h1, t.cell (p := ⟨g, j * 6 + 2, none⟩) hp h2, t.cell (p := ⟨g, j * 6 + 3, none⟩) hp h3, t.cell (p := ⟨g, j * 6 + 4, none⟩) hp h4, t.cell (p := ⟨g, j * 6 + 5, none⟩) hp h5⟩
theorem replace_row (G : WoodS) (b : Int) (n : NodeS) : (replaceG G b n).2.1.1.length ≤ 1 ∧ (replaceG G b n).2.1.2.length ≤ 2 := by
 unfold replaceG
 split
 ·
  exact ⟨by simp, by simp⟩
 ·
  split
  ·
   split
   ·
    exact ⟨by simp, by simp⟩
   ·
    exact ⟨by simp, by simp⟩
  ·
   exact ⟨by simp, by simp⟩
theorem take_rev {ss : List StepS} {m : Nat} {s : StepS} (h : ss[m]? = some s) : (ss.take (m + 1)).reverse = s :: (ss.take m).reverse := by
 rw [List.take_add_one, h]
 simp
def LaidR (V0 V : World) (h q cp : Nat) (b b' : Option Addr) (R : Int × (List ByteArray × List Int) × WoodS) (g8 : Nat) (b1 : Option Addr) (e1 : Nat) (b2 : Option Addr) (e2 : Nat) (ak : Option Addr) (kk dk : Nat) (ac : Option Addr) (kc dc : Nat) : Prop :=
 Box4 V g8 (.bool false) (.slice ak kk dk) (.slice none 0 0) (.slice ac kc dc) ∧ V0.heap.size ≤ g8 ∧ (kk = R.2.1.1.length ∧ kc = R.2.1.2.length) ∧ (IsS V ak dk R.2.1.1 ∧ IsI V ac dc R.2.1.2) ∧ (From V0.heap.size ak ∧ From V0.heap.size ac) ∧ GrowAt V h q cp b1 e1 b2 e2 R.2.2 ∧ (Newer V0 b b1 ∧ Newer V0 b' b2) ∧ Turns (Mine h q) V0 V
def GrowC (w : World) (x : Ending) (w' : World) (h q cp : Nat) (a a' : Option Addr) (R : Int × WoodS) : Prop :=
 ∃ b1 e1 b2 e2, x = .returned (.int .i64 R.1) ∧ GrowAt w' h q cp b1 e1 b2 e2 R.2 ∧ (Newer w a b1 ∧ Newer w a' b2) ∧ Turns (Mine h q) w w'
theorem growC_of {w w' : World} {x : Ending} {h q cp : Nat} {a a' : Option Addr} {E : Int} {G : WoodS} {b1 : Option Addr} {e1 : Nat} {b2 : Option Addr} {e2 : Nat} (hx : x = .returned (.int .i64 E)) (g : GrowAt w' h q cp b1 e1 b2 e2 G) (n1 : Newer w a b1) (n2 : Newer w a' b2) (t : Turns (Mine h q) w w') : GrowC w x w' h q cp a a' (E, G) := ⟨b1, e1, b2, e2, hx, g, ⟨n1, n2⟩, t⟩
set_option maxRecDepth 20000 in
set_option maxHeartbeats 4000000 in
theorem up_any (h q cp : Nat) (a : Option Addr) (c : Nat) (a' : Option Addr) (c' : Nat) (G0 : WoodS) (g0 N cap : Nat) (mss : List MStep) (ss : List StepS) (l0 : Bool) (a1 : Option Addr) (k01 d01 : Nat) (a2 : Option Addr) (k02 d02 : Nat) (a3 : Option Addr) (k03 d03 : Nat) (ks0 vs0 : List ByteArray) (cs0 : List Int) (w : World)
  (GA0 : GrowAt w h q cp a c a' c' G0) (hN : N = ss.length) (hN1 : 1 ≤ N) (hN8 : N ≤ 8) (hcap : N ≤ cap) (hcm : cap ≤ maxLen) (WI : WayIn w g0 mss) (hg0 : g0 ≠ h ∧ g0 ≠ q ∧ g0 < w.heap.size) (RS : Reps w h q mss ss) (hok : Ok G0) (hhas : ∀ s ∈ ss, G0.has s.1 ∧ 10 ≤ s.1) (hnd : (ss.map (·.1)).Nodup)
  (hin : ∀ (j : Nat) (s : StepS), j + 1 < ss.length → ss[j]? = some s → s.2.2 ≤ s.2.1.2.1.length ∧ s.2.2 + 1 ≤ s.2.1.2.2.2.length ∧ s.2.1.2.1.length ≤ 9 ∧ s.2.1.2.2.2.length ≤ 10)
  (N0 : NodeR w h q a1 k01 d01 a2 k02 d02 a3 k03 d03 ks0 vs0 cs0) :
  Calls Tryz.prog 56 #[.pointer (some ⟨h, 0, none⟩), .slice (some ⟨g0, 0, none⟩) N cap, .agg #[.bool l0, .slice a1 k01 d01, .slice a2 k02 d02, .slice a3 k03 d03]] w fun x w' => GrowC w x w' h q cp a a' (upG N ss.reverse G0 (l0, ks0, vs0, cs0)) := by
 obtain ⟨W, hW⟩ : ∃ W, W = w.alloc (.cells #[.bool l0, .slice a1 k01 d01, .slice a2 k02 d02, .slice a3 k03 d03] 76) := ⟨_, rfl⟩
 have BX0 : Box4 W w.heap.size (.bool l0) (.slice a1 k01 d01) (.slice a2 k02 d02) (.slice a3 k03 d03) := by rw [hW]; exact box4_new _ _ _ _ _ _ rfl
 have HB : Below w.heap.size w W := by rw [hW]; exact (Below.refl _ _).alloc (Nat.le_refl _) _
 have hh : h < w.heap.size := GA0.lt
 have hqq : q < w.heap.size := GA0.pg.lt
 have LB := GA0.lb
 have LN := GA0.ln
 have hWs : W.heap.size = w.heap.size + 1 := by rw [hW]; simp
 have off5 : ¬ Mine h q w.heap.size := by unfold Mine; omega
 have offg : ¬ Mine h q g0 := by unfold Mine; omega
 obtain ⟨R, hR⟩ : ∃ R, R = upG N ss.reverse G0 (l0, ks0, vs0, cs0) := ⟨_, rfl⟩
 rw [← hR]
 have HR : Hid (R = upG N ss.reverse G0 (l0, ks0, vs0, cs0)) := hR
 have HSS : Hid (N = ss.length) := hN
 have HIN : Hid (∀ (j : Nat) (s : StepS), j + 1 < ss.length → ss[j]? = some s → s.2.2 ≤ s.2.1.2.1.length ∧ s.2.2 + 1 ≤ s.2.1.2.2.2.length ∧ s.2.1.2.1.length ≤ 9 ∧ s.2.1.2.2.2.length ≤ 10) := hin
 have HND : Hid ((ss.map (·.1)).Nodup) := hnd
 have RSw : Hid (Reps w h q mss ss) := RS
 have WIw := WI
 have HI0 : Hid (R = upG N ((ss.take N).reverse) G0 (l0, ks0, vs0, cs0) ∧ Ok G0 ∧ (∀ s ∈ ss.take N, G0.has s.1 ∧ 10 ≤ s.1) ∧ NodeR W h q a1 k01 d01 a2 k02 d02 a3 k03 d03 ks0 vs0 cs0 ∧ GrowAt W h q cp a c a' c' G0) := ⟨by rw [hR, hN, List.take_length], hok, fun s hs => hhas s (List.mem_of_mem_take hs), N0.below HB, GA0.below HB⟩
 have hNi : (1 : Int) ≤ N := by omega
 have hN8i : (N : Int) ≤ 8 := by omega
 clear hR hN hin hnd RS hok hhas N0 WI
 go_enter Tryz.func56, Tryz.ntmps56
 go_wp2
 rw [← hW]
 go_loopw [7] (fun v wr => ∃ (j : Nat) (G : WoodS) (l : Bool) (ks vs : List ByteArray) (cs : List Int) (b1 : Option Addr) (e1 : Nat) (b2 : Option Addr) (e2 : Nat) (x1 : Option Addr) (k1 d1 : Nat) (x2 : Option Addr) (k2 d2 : Nat) (x3 : Option Addr) (k3 d3 : Nat), v = .int .i64 ((j : Int) - 1) ∧ j ≤ N ∧ R = upG N ((ss.take j).reverse) G (l, ks, vs, cs) ∧ Ok G ∧ (∀ s ∈ ss.take j, G.has s.1 ∧ 10 ≤ s.1) ∧ (j = 0 → ∃ y ys, cs = y :: ys) ∧ Box4 wr w.heap.size (.bool l) (.slice x1 k1 d1) (.slice x2 k2 d2) (.slice x3 k3 d3) ∧ NodeR wr h q x1 k1 d1 x2 k2 d2 x3 k3 d3 ks vs cs ∧ GrowAt wr h q cp b1 e1 b2 e2 G ∧ (Newer W a b1 ∧ Newer W a' b2) ∧ Turns (Mine h q) w wr) (fun v _ => (intOf v + 1).toNat)
 case atStart => exact ⟨N, G0, l0, ks0, vs0, cs0, a, c, a', c', a1, k01, d01, a2, k02, d02, a3, k03, d03, by simp, Nat.le_refl _, HI0.out.1, HI0.out.2.1, HI0.out.2.2.1, fun e => absurd e (by omega), BX0, HI0.out.2.2.2.1, HI0.out.2.2.2.2, ⟨newer_refl _ _, newer_refl _ _⟩, Turns.of_below HB⟩
 case round =>
  obtain ⟨j, G, l, ks, vs, cs, b1, e1, b2, e2, x1, k1, d1, x2, k2, d2, x3, k3, d3, rfl, hj, hRj, hok, hhas, hne, BX, nr, GA, ⟨nw1, nw2⟩, TT⟩ := hrel
  have NR : Hid (NodeR wr h q x1 k1 d1 x2 k2 d2 x3 k3 d3 ks vs cs) := nr
  have HRj : Hid (R = upG N ((ss.take j).reverse) G (l, ks, vs, cs)) := hRj
  have HOK : Hid (Ok G ∧ (∀ s ∈ ss.take j, G.has s.1 ∧ 10 ≤ s.1) ∧ (j = 0 → ∃ y ys, cs = y :: ys)) := ⟨hok, hhas, hne⟩
  have WI := WIw.turns TT offg
  clear hRj hok hhas hne nr HR HI0
  cases j with
  | zero =>
   have em : (((0 : Nat) : Int) - 1) = (-1 : Int) := by omega
   rw [em]
   have hR0 : R = if ks.length = 0 then (0, G.withRoot (cs.getD 0 0)) else if N = 8 then (81, G) else plantG G (l, ks, vs, cs) := by
    rw [HRj.out]
    show upG N [] G (l, ks, vs, cs) = _
    rw [upG]
   obtain ⟨⟨q0, q1, q2, q3⟩, -⟩ := id BX
   obtain ⟨y0, y1, y2, y3, y4⟩ := id GA.box
   have hf3 := GA.f3
   have hk1 := NR.out.e1
   have hk3 := NR.out.e3
   have hwW : w.heap.size ≤ W.heap.size := by omega
   have mk1 : k1 ≤ 9223372036854775807 := by rw [hk1]; exact Nat.le_trans NR.out.i1.1 NR.out.i1.2.1
   have mk3 : k3 ≤ 9223372036854775807 := by rw [hk3]; exact Nat.le_trans NR.out.i3.1 NR.out.i3.2.1
   by_cases hks : ks.length = 0
   ·
    obtain ⟨y, ys, rfl⟩ := HOK.out.2.2 rfl
    rw [if_pos hks] at hR0
    have hR1 : R = (0, G.withRoot y) := hR0
    subst hR1
    obtain ⟨bz, oz, ez, -, hcz⟩ := NR.out.i3.2.2 0 y rfl
    subst ez
    have hk10 : ((k1 : Int) == 0) = true := by rw [hk1, hks]; rfl
    have hk30 : (0 : Int) < k3 := by rw [hk3]; simp
    have hk1' : k1 = 0 := by rw [hk1, hks]
    subst hk1'
    simp only [Nat.add_zero] at hcz
    clear hks hk1 hk3 hR0 em
    go_wp2
    go_ret
    exact growC_of rfl (GA.setRoot y).1 (nw1.low hwW) (nw2.low hwW) (TT.trans (GA.setRoot y).2)
   ·
    rw [if_neg hks] at hR0
    have hk10 : ((k1 : Int) == 0) = false := by rw [beq_eq_false_iff_ne, hk1]; omega
    by_cases hN8e : N = 8
    ·
     rw [if_pos hN8e] at hR0
     subst hR0
     have hN8' : ((N : Int) == 8) = true := by rw [hN8e]; rfl
     clear hks hk1 hk3 em hN8e
     go_wp2
     go_ret
     exact growC_of rfl GA (nw1.low hwW) (nw2.low hwW) TT
    ·
     rw [if_neg hN8e] at hR0
     have hN8' : ((N : Int) == 8) = false := by rw [beq_eq_false_iff_ne]; omega
     have cP := plant_any h q cp b1 e1 b2 e2 G l x1 k1 d1 x2 k2 d2 x3 k3 d3 ks vs cs wr GA (fun _ => HOK.out.1.len) NR.out
     rw [← hR0] at cP
     obtain ⟨rE, rG⟩ := R
     clear hks hk1 hk3 hR0 em hN8e
     go_wp2_with (go_at_call 53; refine cP.mono ?_; rintro y w2 ⟨c1, f1, c2, f2, rfl, GA4, ⟨v1, v2⟩, T4⟩; clear q0 q1 q2 q3 y0 y1 y2 y3 y4)
     go_ret
     exact growC_of rfl GA4 ((nw1.trans v1 (by have := TT.size; have := BX.lt; omega)).low hwW) ((nw2.trans v2 (by have := BX.lt; omega)).low hwW) (TT.trans T4)
  | succ m =>
   have em : ((m + 1 : Nat) : Int) - 1 = (m : Int) := by omega
   rw [em]
   have hmN : m < ss.length := by rw [← HSS.out]; omega
   obtain ⟨s, hs⟩ : ∃ s, Hid (ss[m]? = some s) := ⟨_, List.getElem?_eq_getElem hmN⟩
   obtain ⟨ms0, hms⟩ : ∃ ms0, Hid (mss[m]? = some ms0) := ⟨_, List.getElem?_eq_getElem (by rw [RSw.out.1]; exact hmN)⟩
   obtain ⟨hb0, hb1, hb2, hb3⟩ := RSw.out.2 m ms0 s hms.out hs.out
   obtain ⟨hsh, hs10⟩ := HOK.out.2.1 s (List.mem_of_getElem? (i := m) (by rw [List.getElem?_take_of_lt (by omega)]; exact hs.out))
   obtain ⟨bl, hbl⟩ : ∃ bl : Nat, s.1 = (bl : Int) := ⟨s.1.toNat, by have := hsh.1; omega⟩
   have hblk : Hid (ms0.block = (bl : Int)) := hb0.trans hbl
   obtain ⟨RR, hRR⟩ : ∃ RR, RR = replaceG G bl (l, ks, vs, cs) := ⟨_, rfl⟩
   have hl1 := (rightA_iff _ _).1 HOK.out.1.alloc
   have hltb : bl < G.now.length := by have := has_lt hsh; omega
   have cR : ∀ V, GrowAt V h q cp b1 e1 b2 e2 G → NodeR V h q x1 k1 d1 x2 k2 d2 x3 k3 d3 ks vs cs → Calls Tryz.prog 70 #[.pointer (some ⟨h, 0, none⟩), .int .i64 bl, .agg #[.bool l, .slice x1 k1 d1, .slice x2 k2 d2, .slice x3 k3 d3]] V fun x w' => ReplC V x w' h q cp b1 b2 RR := fun V g n => by
    rw [hRR]
    exact replace_any h q cp b1 e1 b2 e2 G bl l x1 k1 d1 x2 k2 d2 x3 k3 d3 ks vs cs V g (by omega) (by rw [HOK.out.1.len]; exact hltb) (fun _ => HOK.out.1.len) n
   have HRR : Hid (RR = replaceG G s.1 (l, ks, vs, cs)) := by show _ = _; rw [hRR, hbl]
   have HSB : Hid (s.1 = (bl : Int)) := hbl
   have hmi : (m : Int) < N := by omega
   have hm0 : (0 : Int) ≤ m := by omega
   have hNc : (N : Int) ≤ 9223372036854775807 := by omega
   obtain ⟨z0, -⟩ := WI m ms0 hms.out
   rw [hblk.out] at z0
   obtain ⟨⟨q0, q1, q2, q3⟩, -⟩ := id BX
   clear hb0 hb1 hb2 hb3 hsh hs10 hbl hRR hl1 hltb em
   go_wp2
   obtain ⟨V0, hV0⟩ : ∃ X, X = wr.drew := ⟨_, rfl⟩
   have hD0 : Below wr.heap.size wr V0 := by rw [hV0]; exact (Below.refl _ _).drew
   replace GA := GA.below hD0
   replace NR : Hid (NodeR V0 h q x1 k1 d1 x2 k2 d2 x3 k3 d3 ks vs cs) := NR.out.below hD0
   replace BX := BX.below hD0
   replace WI := WI.turns (Turns.of_below (P := fun _ => False) hD0) id
   replace TT := TT.tr hD0
   clear q0 q1 q2 q3 z0 hD0
   obtain ⟨⟨q0, q1, q2, q3⟩, -⟩ := id BX
   obtain ⟨z0, -⟩ := WI m ms0 hms.out
   rw [hblk.out] at z0
   have HV0 : Hid (V0 = wr.drew) := hV0
   have hb5 : w.heap.size < V0.heap.size := BX.lt
   have hg0V : g0 < V0.heap.size := cell_lt z0
   clear hV0
   refine (fun (key : Hid (∀ V g8 b3 e3 b4 e4 ak kk dk ac kc dc, LaidR V0 V h q cp b1 b2 RR g8 b3 e3 b4 e4 ak kk dk ac kc dc → (?propR : World → Nat → Option Addr → Nat → Option Addr → Nat → Option Addr → Nat → Nat → Option Addr → Nat → Nat → Prop) V g8 b3 e3 b4 e4 ak kk dk ac kc dc)) => ?regR) ?kontR
   case regR =>
    refine wp_region_noPanic ?_
    refine wp_region_held_drew (S := fun V => V.cell? ⟨g0, m * 6, none⟩ = some (.int .i64 bl) ∧ (V.cell? ⟨w.heap.size, 0, none⟩ = some (.bool l) ∧ V.cell? ⟨w.heap.size, 1, none⟩ = some (.slice x1 k1 d1) ∧ V.cell? ⟨w.heap.size, 2, none⟩ = some (.slice x2 k2 d2) ∧ V.cell? ⟨w.heap.size, 3, none⟩ = some (.slice x3 k3 d3))) (by kernel_rfl) (by rw [← HV0.out]; exact ⟨z0, q0, q1, q2, q3⟩) (fun hHeld => ?_)
    rw [← HV0.out] at hHeld ⊢
    refine take_at (i := 0) (v := ?_) rfl (by kernel_rfl) (by kernel_rfl) (by kernel_rfl) (fun _ _ _ h => h) (Or.inl ⟨by rfl, ?_⟩) (by assumption) ?_
    rotate_left 1
    ·
     (intro w hSw; (try dsimp only at hSw); go_simp; (try with_reducible rfl))
    try go_frame
    refine take_at (i := 1) (v := ?_) rfl (by kernel_rfl) (by kernel_rfl) (by kernel_rfl) (fun _ _ _ h => h) (Or.inl ⟨by rfl, ?_⟩) (by assumption) ?_
    rotate_left 1
    ·
     (intro w hSw; (try dsimp only at hSw); go_simp; (try with_reducible rfl))
    try go_frame
    refine take_at (i := 2) (v := ?_) rfl (by kernel_rfl) (by kernel_rfl) (by kernel_rfl) (fun _ _ _ h => h) (Or.inl ⟨by rfl, ?_⟩) (by assumption) ?_
    rotate_left 1
    ·
     (intro w hSw; (try dsimp only at hSw); go_simp; (try with_reducible rfl))
    try go_frame
    refine take_at (i := 3) (v := ?_) rfl (by kernel_rfl) (by kernel_rfl) (by kernel_rfl) (fun _ _ _ h => h) (Or.inl ⟨by rfl, ?_⟩) (by assumption) ?_
    rotate_left 1
    ·
     (intro w hSw; (try dsimp only at hSw); go_simp; (try with_reducible rfl))
    try go_frame
    refine take_at (i := 4) (v := ?_) rfl (by kernel_rfl) (by kernel_rfl) (by kernel_rfl) (fun _ _ _ h => h) (Or.inl ⟨by rfl, ?_⟩) (by assumption) ?_
    rotate_left 1
    ·
     (intro w hSw; (try dsimp only at hSw); go_simp; (try with_reducible rfl))
    try go_frame
    refine take_at (i := 5) (v := ?_) rfl (by kernel_rfl) (by kernel_rfl) (by kernel_rfl) (fun _ _ _ h => h) (Or.inl ⟨by rfl, ?_⟩) (by assumption) ?_
    rotate_left 1
    ·
     (intro w hSw; (try dsimp only at hSw); go_simp; (try with_reducible rfl))
    try go_frame
    refine take_at (i := 6) (v := ?_) rfl (by kernel_rfl) (by kernel_rfl) (by kernel_rfl) (fun _ _ _ h => h) (Or.inl ⟨by rfl, ?_⟩) (by assumption) ?_
    rotate_left 1
    ·
     (intro w hSw; (try dsimp only at hSw); go_simp; (try with_reducible rfl))
    try go_frame
    refine wpAnyH_ready (rs := [7, 11]) (by kernel_rfl) (by simp) ?_
    refine cons_at (i := 7) rfl (fun K hK => ?callFirst) (cons_at (i := 11) rfl (fun K hK => ?allocFirst) AllReadyH.nil)
    case callFirst =>
     go_simp
     go_at_call 70
     refine (cR V0 GA NR.out).mono ?_
     rintro y u ⟨b3, e3, b4, e4, ak, kk, dk, ac, kc, dc, rfl, ek, ec, ik, ic, fk, fc, GA2, nw, T2⟩
     have EK : Hid (kk = RR.2.1.1.length ∧ kc = RR.2.1.2.length) := ⟨ek, ec⟩
     clear ek ec
     have BXu := BX.turns T2 off5
     obtain ⟨⟨s0, s1, s2, s3⟩, -⟩ := id BXu
     have zu := T2.cell (p := ⟨g0, m * 6, none⟩) offg z0
     refine hK.out _ _ ?_ (fun hHeld2 => ?_)
     ·
      exact ⟨zu, s0, s1, s2, s3⟩
     clear hK K
     try go_frame
     refine take_at (i := 8) (v := ?_) rfl (by kernel_rfl) (by kernel_rfl) (by kernel_rfl) (fun _ _ _ h => h) (Or.inl ⟨by rfl, ?_⟩) (by assumption) ?_
     rotate_left 1
     ·
      (intro w hSw; (try dsimp only at hSw); go_simp; (try with_reducible rfl))
     try go_frame
     refine take_at (i := 9) (v := ?_) rfl (by kernel_rfl) (by kernel_rfl) (by kernel_rfl) (fun _ _ _ h => h) (Or.inl ⟨by rfl, ?_⟩) (by assumption) ?_
     rotate_left 1
     ·
      (intro w hSw; (try dsimp only at hSw); go_simp; (try with_reducible rfl))
     try go_frame
     refine take_at (i := 10) (v := ?_) rfl (by kernel_rfl) (by kernel_rfl) (by kernel_rfl) (fun _ _ _ h => h) (Or.inl ⟨by rfl, ?_⟩) (by assumption) ?_
     rotate_left 1
     ·
      (intro w hSw; (try dsimp only at hSw); go_simp; (try with_reducible rfl))
     try go_frame
     refine wpAnyH_ready (rs := [11]) (by kernel_rfl) (by simp) ?_
     refine cons_at (i := 11) rfl (fun K hK => ?_) AllReadyH.nil
     go_simp
     refine hK.out _ _ ?_ (fun hHeld3 => ?_)
     ·
      exact ⟨cell_alloc zu _, cell_alloc s0 _, cell_alloc s1 _, cell_alloc s2 _, cell_alloc s3 _⟩
     clear hK K
     try go_frame
     refine wpAnyH_ready (rs := [12]) (by kernel_rfl) (by simp) ?_
     refine cons_at (i := 12) rfl (fun K hK => ?_) AllReadyH.nil
     go_simp
     have hA := (Below.refl u.heap.size u).alloc (Nat.le_refl _) (.cells #[.bool false, .slice ak kk dk, .slice none 0 0, .slice ac kc dc] 76)
     have F : LaidR V0 (u.alloc (.cells #[.bool false, .slice ak kk dk, .slice none 0 0, .slice ac kc dc] 76)) h q cp b1 b2 RR u.heap.size b3 e3 b4 e4 ak kk dk ac kc dc := ⟨box4_new _ _ _ _ _ _ rfl, T2.size, EK.out, ⟨ik.below hA, ic.below hA⟩, ⟨fk, fc⟩, GA2.below hA, nw, T2.tr hA⟩
     refine hK.out _ _ ?_ (fun hHeld4 => ?_)
     ·
      exact ⟨cell_alloc zu _, cell_alloc s0 _, cell_alloc s1 _, cell_alloc s2 _, cell_alloc s3 _⟩
     clear hK K
     try go_frame
     refine take_at (i := 13) (v := ?_) rfl (by kernel_rfl) (by kernel_rfl) (by kernel_rfl) (fun _ _ _ h => h) (Or.inl ⟨by rfl, ?_⟩) (by assumption) ?_
     rotate_left 1
     ·
      (intro w hSw; (try dsimp only at hSw); go_simp; (try with_reducible rfl))
     try go_frame
     refine wpAnyH_done (by kernel_rfl) ?_ _
     refine NoPanic.normal ?_
     clear hHeld hHeld2 hHeld3 hHeld4 hA EK ik ic fk fc GA2 nw T2 BXu zu s0 s1 s2 s3
     generalize u.alloc (.cells #[.bool false, .slice ak kk dk, .slice none 0 0, .slice ac kc dc] 76) = V at F ⊢
     generalize u.heap.size = g8 at F ⊢
     exact key.out V g8 b3 e3 b4 e4 ak kk dk ac kc dc F
    case allocFirst =>
     go_simp
     refine hK.out _ _ ?_ (fun hHeld2 => ?_)
     ·
      exact ⟨cell_alloc z0 _, cell_alloc q0 _, cell_alloc q1 _, cell_alloc q2 _, cell_alloc q3 _⟩
     clear hK K
     try go_frame
     refine wpAnyH_ready (rs := [7]) (by kernel_rfl) (by simp) ?_
     refine cons_at (i := 7) rfl (fun K hK => ?_) AllReadyH.nil
     go_simp
     go_at_call 70
     have hA := (Below.refl V0.heap.size V0).alloc (Nat.le_refl _) (.cells #[.bool false, .slice none 0 0, .slice none 0 0, .slice none 0 0] 76)
     have bZ := box4_new V0 (.bool false) (.slice none 0 0) (.slice none 0 0) (.slice none 0 0) 76 rfl
     have LB0 := GA.lb
     have LN0 := GA.ln
     have hh0 := GA.lt
     have hq0 := GA.pg.lt
     refine (cR _ (GA.below hA) (NR.out.below hA)).mono ?_
     rintro y u ⟨b3, e3, b4, e4, ak, kk, dk, ac, kc, dc, rfl, ek, ec, ik, ic, fk, fc, GA2, ⟨nw1, nw2⟩, T2⟩
     have EK : Hid (kk = RR.2.1.1.length ∧ kc = RR.2.1.2.length) := ⟨ek, ec⟩
     clear ek ec
     have BXu := (BX.below hA).turns T2 off5
     obtain ⟨⟨s0, s1, s2, s3⟩, -⟩ := id BXu
     have zu := T2.cell (p := ⟨g0, m * 6, none⟩) offg (cell_below hA z0)
     have bZu := bZ.turns T2 (by show ¬ Mine h q V0.heap.size; unfold Mine; omega)
     obtain ⟨⟨y0, y1, y2, y3⟩, g0', g1', g2', g3'⟩ := id bZu
     refine hK.out _ _ ?_ (fun hHeld3 => ?_)
     ·
      exact ⟨zu, s0, s1, s2, s3⟩
     clear hK K
     try go_frame
     refine take_at (i := 8) (v := ?_) rfl (by kernel_rfl) (by kernel_rfl) (by kernel_rfl) (fun _ _ _ h => h) (Or.inl ⟨by rfl, ?_⟩) (by assumption) ?_
     rotate_left 1
     ·
      (intro w hSw; (try dsimp only at hSw); go_simp; (try with_reducible rfl))
     try go_frame
     refine take_at (i := 9) (v := ?_) rfl (by kernel_rfl) (by kernel_rfl) (by kernel_rfl) (fun _ _ _ h => h) (Or.inl ⟨by rfl, ?_⟩) (by assumption) ?_
     rotate_left 1
     ·
      (intro w hSw; (try dsimp only at hSw); go_simp; (try with_reducible rfl))
     try go_frame
     refine take_at (i := 10) (v := ?_) rfl (by kernel_rfl) (by kernel_rfl) (by kernel_rfl) (fun _ _ _ h => h) (Or.inl ⟨by rfl, ?_⟩) (by assumption) ?_
     rotate_left 1
     ·
      (intro w hSw; (try dsimp only at hSw); go_simp; (try with_reducible rfl))
     try go_frame
     refine wpAnyH_ready (rs := [12]) (by kernel_rfl) (by simp) ?_
     refine cons_at (i := 12) rfl (fun K hK => ?_) AllReadyH.nil
     go_simp
     have T4 := turns_put4 u V0.heap.size (.bool false) (.slice ak kk dk) (.slice none 0 0) (.slice ac kc dc)
     have hzA : (V0.alloc (.cells #[.bool false, .slice none 0 0, .slice none 0 0, .slice none 0 0] 76)).heap.size = V0.heap.size + 1 := by simp
     have hs2 := T2.size
     have F : LaidR V0 ((((u.setCell ⟨V0.heap.size, 0, none⟩ (.bool false)).setCell ⟨V0.heap.size, 1, none⟩ (.slice ak kk dk)).setCell ⟨V0.heap.size, 2, none⟩ (.slice none 0 0)).setCell ⟨V0.heap.size, 3, none⟩ (.slice ac kc dc)) h q cp b1 b2 RR V0.heap.size b3 e3 b4 e4 ak kk dk ac kc dc :=
      ⟨bZu.put _ _ _ _, Nat.le_refl _, EK.out, ⟨ik.turns T4 (fun x hx e => by have := fk x hx; omega), ic.turns T4 (fun x hx e => by have := fc x hx; omega)⟩, ⟨fk.mono (by omega), fc.mono (by omega)⟩, GA2.turns T4 (by omega) (by omega) (nw1.off LB0 (by omega) (by omega)) (nw2.off LN0 (by omega) (by omega)), ⟨nw1.low (by omega), nw2.low (by omega)⟩, ((Turns.of_below hA).trans T2).own T4 (fun k hk e => by omega)⟩
     refine hK.out _ _ ?_ (fun hHeld4 => ?_)
     ·
      exact ⟨T4.cell (p := ⟨g0, m * 6, none⟩) (by show ¬ g0 = _; omega) zu, T4.cell (p := ⟨w.heap.size, 0, none⟩) (by show ¬ w.heap.size = _; omega) s0, T4.cell (p := ⟨w.heap.size, 1, none⟩) (by show ¬ w.heap.size = _; omega) s1, T4.cell (p := ⟨w.heap.size, 2, none⟩) (by show ¬ w.heap.size = _; omega) s2, T4.cell (p := ⟨w.heap.size, 3, none⟩) (by show ¬ w.heap.size = _; omega) s3⟩
     clear hK K
     try go_frame
     refine take_at (i := 13) (v := ?_) rfl (by kernel_rfl) (by kernel_rfl) (by kernel_rfl) (fun _ _ _ h => h) (Or.inl ⟨by rfl, ?_⟩) (by assumption) ?_
     rotate_left 1
     ·
      (intro w hSw; (try dsimp only at hSw); go_simp; (try with_reducible rfl))
     try go_frame
     refine wpAnyH_done (by kernel_rfl) ?_ _
     refine NoPanic.normal ?_
     exact key.out _ _ b3 e3 b4 e4 ak kk dk ac kc dc F
   case kontR =>
    intro V g8 b3 e3 b4 e4 ak kk dk ac kc dc hF
    obtain ⟨B8, hg8, EK0, ⟨ik0, ic0⟩, ⟨fk, fc⟩, GA2, ⟨nw3, nw4⟩, T2⟩ := hF
    have EK : Hid (kk = RR.2.1.1.length ∧ kc = RR.2.1.2.length) := EK0
    have IK : Hid (IsS V ak dk RR.2.1.1 ∧ IsI V ac dc RR.2.1.2) := ⟨ik0, ic0⟩
    have hwV0 : W.heap.size ≤ V0.heap.size := by omega
    have nz3 := nw1.trans nw3 hwV0
    have nz4 := nw2.trans nw4 hwV0
    replace TT := TT.trans T2
    replace BX := BX.turns T2 off5
    replace WI := WI.turns T2 offg
    have hRs : Hid (R = if RR.1 = 0 ∧ RR.2.1.2 ≠ [s.1] then upG N ((ss.take m).reverse) RR.2.2 (nextN ((ss.take m).reverse) RR.2.1) else (RR.1, RR.2.2)) := by
     show _ = _
     rw [HRj.out, take_rev hs.out, upG, ← HRR.out]
    have hLo : Hid ((RR.1 = 60 ∨ RR.1 = 81) ∨ (RR.1 = 0 ∧ (∃ y ys, RR.2.1.2 = y :: ys ∧ 10 ≤ y ∧ y < G.now.length) ∧ Loose G RR.2.2 ∧ ∀ b, G.has b → b ≠ s.1 → RR.2.2.has b)) := by
     have hs0 := HOK.out.2.1 s (List.mem_of_getElem? (i := m) (by rw [List.getElem?_take_of_lt (by omega)]; exact hs.out))
     have := replace_loose (n := (l, ks, vs, cs)) HOK.out.1 hs0.1 hs0.2
     rw [← HRR.out] at this
     exact this
    have hRow : Hid (RR.2.1.1.length ≤ 1 ∧ RR.2.1.2.length ≤ 2) := by
     have := replace_row G s.1 (l, ks, vs, cs)
     rw [← HRR.out] at this
     exact this
    clear EK0 ik0 ic0 z0 q0 q1 q2 q3 nw3 nw4 nw1 nw2 HRj HV0 GA NR cR HRR
    obtain ⟨rE, ⟨rk, rc⟩, rG⟩ := RR
    simp only at *
    obtain ⟨z0, -⟩ := WI m ms0 hms.out
    rw [hblk.out] at z0
    obtain ⟨⟨r0, r1, r2, r3⟩, -⟩ := id B8
    by_cases hE : rE = 0
    ·
     subst hE
     have hg8lt : g8 < V.heap.size := B8.lt
     obtain ⟨V1, hV1⟩ : ∃ X, X = V.drew := ⟨_, rfl⟩
     have hD1 : Below V.heap.size V V1 := by rw [hV1]; exact (Below.refl _ _).drew
     have HV1 : Hid (V1 = V.drew) := hV1
     have cE : ∀ X g, Below V.heap.size V X → IsI X (some ⟨g, 0, none⟩) 1 [(bl : Int)] → Calls Tryz.prog 71 #[.slice ac kc dc, .slice (some ⟨g, 0, none⟩) 1 1] X fun e w' => e = .returned (.bool (decide (rc = [(bl : Int)]))) ∧ Below X.heap.size X w' := fun X g hX h1 => equal_one ac dc kc rc g bl X EK.out.2 (IK.out.2.below hX) h1
     have z1 := cell_below hD1 z0
     have r3' := cell_below hD1 r3
     clear hV1
     go_wp2
     refine wp_region_noPanic ?_
     refine wp_region_held_drew (S := fun X => X.cell? ⟨g0, m * 6, none⟩ = some (.int .i64 bl) ∧ X.cell? ⟨g8, 3, none⟩ = some (.slice ac kc dc)) (by kernel_rfl) (by rw [← HV1.out]; exact ⟨z1, r3'⟩) (fun hHeld => ?_)
     rw [← HV1.out] at hHeld ⊢
     refine take_at (i := 0) (v := ?_) rfl (by kernel_rfl) (by kernel_rfl) (by kernel_rfl) (fun _ _ _ h => h) (Or.inl ⟨by rfl, ?_⟩) (by assumption) ?_
     rotate_left 1
     ·
      (intro w hSw; (try dsimp only at hSw); go_simp; (try with_reducible rfl))
     try go_frame
     refine take_at (i := 1) (v := ?_) rfl (by kernel_rfl) (by kernel_rfl) (by kernel_rfl) (fun _ _ _ h => h) (Or.inl ⟨by rfl, ?_⟩) (by assumption) ?_
     rotate_left 1
     ·
      (intro w hSw; (try dsimp only at hSw); go_simp; (try with_reducible rfl))
     try go_frame
     refine take_at (i := 2) (v := ?_) rfl (by kernel_rfl) (by kernel_rfl) (by kernel_rfl) (fun _ _ _ h => h) (Or.inl ⟨by rfl, ?_⟩) (by assumption) ?_
     rotate_left 1
     ·
      (intro w hSw; (try dsimp only at hSw); go_simp; (try with_reducible rfl))
     try go_frame
     refine take_at (i := 3) (v := ?_) rfl (by kernel_rfl) (by kernel_rfl) (by kernel_rfl) (fun _ _ _ h => h) (Or.inl ⟨by rfl, ?_⟩) (by assumption) ?_
     rotate_left 1
     ·
      (intro w hSw; (try dsimp only at hSw); go_simp; (try with_reducible rfl))
     try go_frame
     refine take_at (i := 4) (v := ?_) rfl (by kernel_rfl) (by kernel_rfl) (by kernel_rfl) (fun _ _ _ h => h) (Or.inl ⟨by rfl, ?_⟩) (by assumption) ?_
     rotate_left 1
     ·
      (intro w hSw; (try dsimp only at hSw); go_simp; (try with_reducible rfl))
     try go_frame
     refine take_at (i := 5) (v := ?_) rfl (by kernel_rfl) (by kernel_rfl) (by kernel_rfl) (fun _ _ _ h => h) (Or.inl ⟨by rfl, ?_⟩) (by assumption) ?_
     rotate_left 1
     ·
      (intro w hSw; (try dsimp only at hSw); go_simp; (try with_reducible rfl))
     try go_frame
     refine take_at (i := 6) (v := ?_) rfl (by kernel_rfl) (by kernel_rfl) (by kernel_rfl) (fun _ _ _ h => h) (Or.inl ⟨by rfl, ?_⟩) (by assumption) ?_
     rotate_left 1
     ·
      (intro w hSw; (try dsimp only at hSw); go_simp; (try with_reducible rfl))
     try go_frame
     refine take_at (i := 7) (v := ?_) rfl (by kernel_rfl) (by kernel_rfl) (by kernel_rfl) (fun _ _ _ h => h) (Or.inl ⟨by rfl, ?_⟩) (by assumption) ?_
     rotate_left 1
     ·
      (intro w hSw; (try dsimp only at hSw); go_simp; (try with_reducible rfl))
     try go_frame
     refine take_at (i := 8) (v := ?_) rfl (by kernel_rfl) (by kernel_rfl) (by kernel_rfl) (fun _ _ _ h => h) (Or.inl ⟨by rfl, ?_⟩) (by assumption) ?_
     rotate_left 1
     ·
      (intro w hSw; (try dsimp only at hSw); go_simp; (try with_reducible rfl))
     try go_frame
     refine take_at (i := 9) (v := ?_) rfl (by kernel_rfl) (by kernel_rfl) (by kernel_rfl) (fun _ _ _ h => h) (Or.inl ⟨by rfl, ?_⟩) (by assumption) ?_
     rotate_left 1
     ·
      (intro w hSw; (try dsimp only at hSw); go_simp; (try with_reducible rfl))
     try go_frame
     refine wpAnyH_ready (rs := [10]) (by kernel_rfl) (by simp) ?_
     refine cons_at (i := 10) rfl (fun K hK => ?_) AllReadyH.nil
     go_simp
     have hA1 := (Below.refl V1.heap.size V1).alloc (Nat.le_refl _) (.cells #[.int .i64 bl] 3)
     refine hK.out _ _ ?_ (fun hHeld2 => ?_)
     ·
      exact ⟨cell_below hA1 z1, cell_below hA1 r3'⟩
     clear hK K
     try go_frame
     refine wpAnyH_ready (rs := [11]) (by kernel_rfl) (by simp) ?_
     refine cons_at (i := 11) rfl (fun K hK => ?_) AllReadyH.nil
     go_simp
     go_at_call 71
     refine (cE _ _ (hD1.trans (hA1.mono hD1.size)) (isI_one V1 bl)).mono ?_
     rintro y u ⟨rfl, hbu⟩
     have hVu : Below V.heap.size V u := Below.tr (Below.tr hD1 hA1) hbu
     refine hK.out _ _ ?_ (fun hHeld3 => ?_)
     ·
      exact ⟨cell_below hVu z0, cell_below hVu r3⟩
     clear hK K
     try go_frame
     refine take_at (i := 12) (v := ?_) rfl (by kernel_rfl) (by kernel_rfl) (by kernel_rfl) (fun _ _ _ h => h) (Or.inl ⟨by rfl, ?_⟩) (by assumption) ?_
     rotate_left 1
     ·
      (intro w hSw; (try dsimp only at hSw); go_simp; (try with_reducible rfl))
     try go_frame
     refine wpAnyH_done (by kernel_rfl) ?_ _
     refine NoPanic.normal ?_
     clear hHeld hHeld2 hHeld3 hbu hA1 z1 r3' cE HV1 hD1
     replace GA2 := GA2.below hVu
     replace B8 := B8.below hVu
     replace BX := BX.below hVu
     replace WI := WI.turns (Turns.of_below (P := fun _ => False) hVu) id
     replace IK : Hid (IsS u ak dk rk ∧ IsI u ac dc rc) := ⟨IK.out.1.below hVu, IK.out.2.below hVu⟩
     replace TT := TT.tr hVu
     have hsu := hVu.size
     have hs2 := T2.size
     have hdec : decide (rc = [(bl : Int)]) = decide (rc = [s.1]) := by rw [HSB.out]
     rw [hdec]
     clear hdec
     by_cases hrc : rc = [s.1]
     ·
      rw [decide_eq_true hrc]
      have hRe : R = (0, rG) := by rw [hRs.out, if_neg (fun hh => hh.2 hrc)]
      subst hRe
      clear hrc r0 r1 r2 r3 z0
      go_wp2
      go_ret
      exact growC_of rfl GA2 (nz3.low (by omega)) (nz4.low (by omega)) TT
     ·
      rw [decide_eq_false hrc]
      have HRe : Hid (R = upG N ((ss.take m).reverse) rG (nextN ((ss.take m).reverse) (rk, rc))) := by show _ = _; rw [hRs.out]; exact if_pos ⟨trivial, hrc⟩
      obtain ⟨⟨y, ys, hy⟩, hloose, hkeep⟩ : (∃ y ys, rc = y :: ys) ∧ Loose G rG ∧ ∀ b, G.has b → b ≠ s.1 → rG.has b := by
       rcases hLo.out with hh | ⟨_, ⟨y, ys, e, _⟩, h2, h3⟩
       ·
        omega
       ·
        exact ⟨⟨y, ys, e⟩, h2, h3⟩
      have HN : Hid (Ok rG ∧ (∀ t ∈ ss.take m, rG.has t.1 ∧ 10 ≤ t.1) ∧ ∃ y ys, rc = y :: ys) := by
       refine ⟨hloose.ok, fun t ht => ?_, y, ys, hy⟩
       have ht1 : t ∈ ss.take (m + 1) := by rw [List.take_add_one]; exact List.mem_append_left _ ht
       obtain ⟨h1, h2⟩ := HOK.out.2.1 t ht1
       refine ⟨hkeep _ h1 (fun e => ?_), h2⟩
       obtain ⟨i, hi⟩ := List.getElem?_of_mem ht
       have hil := (List.getElem?_eq_some_iff.1 hi).1
       rw [List.length_take] at hil
       rw [List.getElem?_take_of_lt (by omega)] at hi
       have hp := List.pairwise_iff_getElem.1 HND.out i m (by simp; omega) (by simpa using hmN) (by omega)
       apply hp
       have e1 : ss[i]'(by omega) = t := (List.getElem?_eq_some_iff.1 hi).2
       have e2 : ss[m]'(by omega) = s := (List.getElem?_eq_some_iff.1 hs.out).2
       simp only [List.getElem_map]
       rw [e1, e2, e]
      clear hrc hy hloose hkeep hLo hRs y ys r0 r1 r2 r3 z0
      obtain ⟨⟨r0, r1, r2, r3⟩, -⟩ := id B8
      obtain ⟨⟨q0, q1, q2, q3⟩, f0, f1, f2, f3⟩ := id BX
      have T5 := turns_put4 u w.heap.size (.bool false) (.slice ak kk dk) (.slice none 0 0) (.slice ac kc dc)
      have BX5 := BX.put (.bool false) (.slice ak kk dk) (.slice none 0 0) (.slice ac kc dc)
      have B85 := B8.turns T5 (by omega)
      have GA5 := GA2.turns T5 (by omega) (by omega) (nz3.off LB (by omega) (by omega)) (nz4.off LN (by omega) (by omega))
      have IK5 : Hid (IsS _ ak dk rk ∧ IsI _ ac dc rc) := ⟨IK.out.1.turns T5 (fun x hx e => by have := fk x hx; omega), IK.out.2.turns T5 (fun x hx e => by have := fc x hx; omega)⟩
      have WI5 := WI.turns T5 (by omega)
      have TT5 := TT.own T5 (fun k hk e => by omega)
      generalize hU5 : (((u.setCell ⟨w.heap.size, 0, none⟩ (.bool false)).setCell ⟨w.heap.size, 1, none⟩ (.slice ak kk dk)).setCell ⟨w.heap.size, 2, none⟩ (.slice none 0 0)).setCell ⟨w.heap.size, 3, none⟩ (.slice ac kc dc) = U5 at T5 BX5 B85 GA5 IK5 WI5 TT5
      have HU5 : Hid ((((u.setCell ⟨w.heap.size, 0, none⟩ (.bool false)).setCell ⟨w.heap.size, 1, none⟩ (.slice ak kk dk)).setCell ⟨w.heap.size, 2, none⟩ (.slice none 0 0)).setCell ⟨w.heap.size, 3, none⟩ (.slice ac kc dc) = U5) := hU5
      have hs5 := T5.size
      clear hU5
      cases m with
      | zero =>
       have hNR : Hid (NodeR U5 h q ak kk dk none 0 0 ac kc dc rk [] rc) := ⟨EK.out.1, rfl, EK.out.2, IK5.out.1, isS_nil _, IK5.out.2, fk.off2 (by omega) (by omega), off2_nil _ _, fc.off2 (by omega) (by omega)⟩
       go_wp2
       rw [HU5.out]
       go_roundw
       case rel => exact ⟨0, rG, false, rk, [], rc, b3, e3, b4, e4, ak, kk, dk, none, 0, 0, ac, kc, dc, by go_num, by omega, HRe.out, HN.out.1, HN.out.2.1, fun _ => HN.out.2.2, BX5, hNR.out, GA5, ⟨nz3, nz4⟩, TT5⟩
       case measure => simp [intOf]
      | succ m =>
       obtain ⟨p, hp⟩ : ∃ p, Hid (ss[m]? = some p) := ⟨_, List.getElem?_eq_getElem (by omega)⟩
       obtain ⟨mp, hmp⟩ : ∃ mp, Hid (mss[m]? = some mp) := ⟨_, List.getElem?_eq_getElem (by rw [RSw.out.1]; omega)⟩
       obtain ⟨hp0, hp1, hp2, hp3⟩ := RSw.out.2 m mp p hmp.out hp.out
       obtain ⟨hi1, hi2, hi3, hi4⟩ := HIN.out m p (by omega) hp.out
       have hP5 := hp3.mine TT5
       obtain ⟨y0, y1, y2, y3, y4, y5⟩ := WI5 m mp hmp.out
       obtain ⟨xk, hxk⟩ : ∃ xk, xk = p.2.1.2.1.take p.2.2 ++ (rk ++ p.2.1.2.1.drop p.2.2) := ⟨_, rfl⟩
       obtain ⟨xc, hxc⟩ : ∃ xc, xc = p.2.1.2.2.2.take p.2.2 ++ (rc ++ p.2.1.2.2.2.drop (p.2.2 + 1)) := ⟨_, rfl⟩
       have cW : ∀ X, Turns (fun _ => False) U5 X → Calls Tryz.prog 72 #[.agg #[.int .i64 mp.block, .bool mp.l, .slice mp.a1 mp.k1 mp.d1, .slice mp.a2 mp.k2 mp.d2, .slice mp.a3 mp.k3 mp.d3, .int .i64 mp.kid], .agg #[.bool false, .slice ak kk dk, .slice none 0 0, .slice ac kc dc]] X fun x w' => ∃ z1 t1 z2 t2, x = .returned (.agg #[.bool false, .slice z1 xk.length t1, .slice none 0 0, .slice z2 xc.length t2]) ∧ IsS w' z1 t1 xk ∧ IsI w' z2 t2 xc ∧ From X.heap.size z1 ∧ From X.heap.size z2 ∧ Below X.heap.size X w' := fun X hX => by
        have hh2 := hRow.out
        have := withRow_any mp.block mp.l mp.a1 mp.a2 mp.a3 ak none ac mp.d1 mp.d2 mp.d3 mp.k1 mp.k2 mp.k3 dk 0 dc kk 0 kc mp.kid xk.length xc.length p.2.1.2.1 rk p.2.1.2.2.2 rc X hP5.e1 hP5.e3 (hP5.i1.turns hX (fun _ _ e => e)) (hP5.i3.turns hX (fun _ _ e => e)) EK.out.1 EK.out.2 (IK5.out.1.turns hX (fun _ _ e => e)) (IK5.out.2.turns hX (fun _ _ e => e)) (by rw [hp2, hP5.e1]; exact hi1) (by rw [hp2, hP5.e3]; exact hi2) (by rw [hP5.e1]; omega) (by rw [hP5.e3]; omega) (by rw [EK.out.1]; omega) (by rw [EK.out.2]; omega) (by rw [hxk, hp2]) (by rw [hxc, hp2])
        rw [hp2, ← hxk, ← hxc] at this
        rw [hp2]
        exact this
       have HRe2 : Hid (R = upG N ((ss.take (m + 1)).reverse) rG (false, xk, [], xc)) := by
        show _ = _
        rw [HRe.out, take_rev hp.out]
        show upG N _ rG (withRowN p.2.1 p.2.2 (rk, rc)) = _
        unfold withRowN
        rw [hxk, hxc]
       have hxe : Hid (m + 1 = 0 → ∃ y ys, xc = y :: ys) := fun e => absurd e (by omega)
       obtain ⟨⟨r0', r1', r2', r3'⟩, -⟩ := id B85
       obtain ⟨⟨q0', q1', q2', q3'⟩, f0', f1', f2', f3'⟩ := id BX5
       obtain ⟨nk, hnk⟩ : ∃ nk, nk = xk.length := ⟨_, rfl⟩
       obtain ⟨nc, hnc⟩ : ∃ nc, nc = xc.length := ⟨_, rfl⟩
       rw [← hnk, ← hnc] at cW
       have HNK : Hid (nk = xk.length ∧ nc = xc.length) := ⟨hnk, hnc⟩
       obtain ⟨V9, hV9⟩ : ∃ X, X = U5.drew := ⟨_, rfl⟩
       have HV9 : Hid (V9 = U5.drew) := hV9
       have hD9 : Below U5.heap.size U5 V9 := by rw [hV9]; exact (Below.refl _ _).drew
       have hm1 : (0 : Int) < ((m + 1 : Nat) : Int) := by omega
       have hmi' : (m : Int) < N := by omega
       have hwm : IntKind.i64.wrap (m : Int) = (m : Int) := i64_in _ (by omega) (by omega)
       have B89 := B85.below hD9
       have BX9 := BX5.below hD9
       have GA9 := GA5.below hD9
       have TT9 := TT5.tr hD9
       have hs9 := hD9.size
       clear y0 y1 y2 y3 y4 y5 hxk hxc hnk hnc hV9
       obtain ⟨y0, y1, y2, y3, y4, y5⟩ := (WI5.turns (Turns.of_below (P := fun _ => False) hD9) id) m mp hmp.out
       have cW9 := cW V9 (Turns.of_below hD9)
       clear hp0 hp1 hp2 hp3 hi1 hi2 hi3 hi4 hP5
       clear cW r0' r1' r2' r3' q0' q1' q2' q3' f0' f1' f2' f3' WI5 hD9
       obtain ⟨⟨r0', r1', r2', r3'⟩, -⟩ := id B89
       go_wp2
       rw [HU5.out]
       refine wp_region_noPanic ?_
       refine wp_region_held_drew (S := fun X => (X.cell? ⟨g0, m * 6, none⟩ = some (.int .i64 mp.block) ∧ X.cell? ⟨g0, m * 6 + 1, none⟩ = some (.bool mp.l) ∧ X.cell? ⟨g0, m * 6 + 2, none⟩ = some (.slice mp.a1 mp.k1 mp.d1) ∧ X.cell? ⟨g0, m * 6 + 3, none⟩ = some (.slice mp.a2 mp.k2 mp.d2) ∧ X.cell? ⟨g0, m * 6 + 4, none⟩ = some (.slice mp.a3 mp.k3 mp.d3) ∧ X.cell? ⟨g0, m * 6 + 5, none⟩ = some (.int .i64 mp.kid)) ∧ (X.cell? ⟨g8, 0, none⟩ = some (.bool false) ∧ X.cell? ⟨g8, 1, none⟩ = some (.slice ak kk dk) ∧ X.cell? ⟨g8, 2, none⟩ = some (.slice none 0 0) ∧ X.cell? ⟨g8, 3, none⟩ = some (.slice ac kc dc))) (by kernel_rfl) (by rw [← HV9.out]; exact ⟨⟨y0, y1, y2, y3, y4, y5⟩, r0', r1', r2', r3'⟩) (fun hHeld => ?_)
       rw [← HV9.out] at hHeld ⊢
       refine take_at (i := 0) (v := ?_) rfl (by kernel_rfl) (by kernel_rfl) (by kernel_rfl) (fun _ _ _ h => h) (Or.inl ⟨by rfl, ?_⟩) (by assumption) ?_
       rotate_left 1
       ·
        (intro w hSw; (try dsimp only at hSw); go_simp; (try with_reducible rfl))
       try go_frame
       refine take_at (i := 1) (v := ?_) rfl (by kernel_rfl) (by kernel_rfl) (by kernel_rfl) (fun _ _ _ h => h) (Or.inl ⟨by rfl, ?_⟩) (by assumption) ?_
       rotate_left 1
       ·
        (intro w hSw; (try dsimp only at hSw); go_simp; (try with_reducible rfl))
       try go_frame
       refine take_at (i := 2) (v := ?_) rfl (by kernel_rfl) (by kernel_rfl) (by kernel_rfl) (fun _ _ _ h => h) (Or.inl ⟨by rfl, ?_⟩) (by assumption) ?_
       rotate_left 1
       ·
        (intro w hSw; (try dsimp only at hSw); go_simp; (try with_reducible rfl))
       try go_frame
       refine take_at (i := 3) (v := ?_) rfl (by kernel_rfl) (by kernel_rfl) (by kernel_rfl) (fun _ _ _ h => h) (Or.inl ⟨by rfl, ?_⟩) (by assumption) ?_
       rotate_left 1
       ·
        (intro w hSw; (try dsimp only at hSw); go_simp; (try with_reducible rfl))
       try go_frame
       refine take_at (i := 4) (v := ?_) rfl (by kernel_rfl) (by kernel_rfl) (by kernel_rfl) (fun _ _ _ h => h) (Or.inl ⟨by rfl, ?_⟩) (by assumption) ?_
       rotate_left 1
       ·
        (intro w hSw; (try dsimp only at hSw); go_simp; (try with_reducible rfl))
       try go_frame
       refine take_at (i := 5) (v := ?_) rfl (by kernel_rfl) (by kernel_rfl) (by kernel_rfl) (fun _ _ _ h => h) (Or.inl ⟨by rfl, ?_⟩) (by assumption) ?_
       rotate_left 1
       ·
        (intro w hSw; (try dsimp only at hSw); go_simp; (try with_reducible rfl))
       try go_frame
       refine wpAnyH_ready (rs := [6]) (by kernel_rfl) (by simp) ?_
       refine cons_at (i := 6) rfl (fun K hK => ?_) AllReadyH.nil
       go_simp
       go_at_call 72
       refine cW9.mono ?_
       rintro y u9 ⟨z1, t1, z2, t2, rfl, iz1, iz2, fz1, fz2, hb9⟩
       refine hK.out _ _ ?_ (fun hHeld2 => ?_)
       ·
        exact ⟨⟨cell_below hb9 y0, cell_below hb9 y1, cell_below hb9 y2, cell_below hb9 y3, cell_below hb9 y4, cell_below hb9 y5⟩, cell_below hb9 r0', cell_below hb9 r1', cell_below hb9 r2', cell_below hb9 r3'⟩
       clear hK K
       try go_frame
       replace BX9 := BX9.below hb9
       replace GA9 := GA9.below hb9
       replace TT9 := TT9.tr hb9
       have hsu9 := hb9.size
       obtain ⟨⟨q0', q1', q2', q3'⟩, f0', f1', f2', f3'⟩ := id BX9
       refine wpAnyH_ready (rs := [7]) (by kernel_rfl) (by simp) ?_
       refine cons_at (i := 7) rfl (fun K hK => ?_) AllReadyH.nil
       go_simp
       have T6 := turns_put4 u9 w.heap.size (.bool false) (.slice z1 nk t1) (.slice none 0 0) (.slice z2 nc t2)
       have BX6 := BX9.put (.bool false) (.slice z1 nk t1) (.slice none 0 0) (.slice z2 nc t2)
       have GA6 := GA9.turns T6 (by omega) (by omega) (nz3.off LB (by omega) (by omega)) (nz4.off LN (by omega) (by omega))
       have TT6 := TT9.own T6 (fun k hk e => by omega)
       have IZ : Hid (NodeR _ h q z1 nk t1 none 0 0 z2 nc t2 xk [] xc) := ⟨HNK.out.1, rfl, HNK.out.2, iz1.turns T6 (fun x hx e => by have := fz1 x hx; omega), isS_nil _, iz2.turns T6 (fun x hx e => by have := fz2 x hx; omega), fz1.off2 (by omega) (by omega), off2_nil _ _, fz2.off2 (by omega) (by omega)⟩
       have y0' := T6.cell (p := ⟨g0, m * 6, none⟩) (by show ¬ g0 = _; omega) (cell_below hb9 y0)
       have y1' := T6.cell (p := ⟨g0, m * 6 + 1, none⟩) (by show ¬ g0 = _; omega) (cell_below hb9 y1)
       have y2' := T6.cell (p := ⟨g0, m * 6 + 2, none⟩) (by show ¬ g0 = _; omega) (cell_below hb9 y2)
       have y3' := T6.cell (p := ⟨g0, m * 6 + 3, none⟩) (by show ¬ g0 = _; omega) (cell_below hb9 y3)
       have y4' := T6.cell (p := ⟨g0, m * 6 + 4, none⟩) (by show ¬ g0 = _; omega) (cell_below hb9 y4)
       have y5' := T6.cell (p := ⟨g0, m * 6 + 5, none⟩) (by show ¬ g0 = _; omega) (cell_below hb9 y5)
       have r0'' := T6.cell (p := ⟨g8, 0, none⟩) (by show ¬ g8 = _; omega) (cell_below hb9 r0')
       have r1'' := T6.cell (p := ⟨g8, 1, none⟩) (by show ¬ g8 = _; omega) (cell_below hb9 r1')
       have r2'' := T6.cell (p := ⟨g8, 2, none⟩) (by show ¬ g8 = _; omega) (cell_below hb9 r2')
       have r3'' := T6.cell (p := ⟨g8, 3, none⟩) (by show ¬ g8 = _; omega) (cell_below hb9 r3')
       refine hK.out _ _ ?_ (fun hHeld3 => ?_)
       ·
        exact ⟨⟨y0', y1', y2', y3', y4', y5'⟩, r0'', r1'', r2'', r3''⟩
       clear hK K
       try go_frame
       refine wpAnyH_done (by kernel_rfl) ?_ _
       refine NoPanic.normal ?_
       clear hHeld hHeld2 hHeld3
       go_wp2
       go_roundw
       case rel => exact ⟨m + 1, rG, false, xk, [], xc, b3, e3, b4, e4, z1, nk, t1, none, 0, 0, z2, nc, t2, by go_num, by omega, HRe2.out, HN.out.1, HN.out.2.1, hxe.out, BX6, IZ.out, GA6, ⟨nz3, nz4⟩, TT6⟩
       case measure => simp [intOf]; omega
    ·
     have hE' : (rE != 0) = true := bne_iff_ne.2 hE
     have hRe : R = (rE, rG) := by rw [hRs.out, if_neg (fun hh => hE hh.1)]
     subst hRe
     clear hRs hLo
     obtain ⟨V1, hV1⟩ : ∃ X, X = V.drew := ⟨_, rfl⟩
     have hD1 : Below V.heap.size V V1 := by rw [hV1]; exact (Below.refl _ _).drew
     have HV1 : Hid (V1 = V.drew) := hV1
     clear hV1
     go_wp2
     refine wp_region_noPanic ?_
     refine wp_region_held_drew (S := fun X => True) (by kernel_rfl) trivial (fun hHeld => ?_)
     rw [← HV1.out]
     refine take_at (i := 0) (v := ?_) rfl (by kernel_rfl) (by kernel_rfl) (by kernel_rfl) (fun _ _ _ h => h) (Or.inl ⟨by rfl, ?_⟩) (by assumption) ?_
     rotate_left 1
     ·
      (intro w hSw; (try dsimp only at hSw); go_simp; (try with_reducible rfl))
     try go_frame
     refine take_at (i := 1) (v := ?_) rfl (by kernel_rfl) (by kernel_rfl) (by kernel_rfl) (fun _ _ _ h => h) (Or.inl ⟨by rfl, ?_⟩) (by assumption) ?_
     rotate_left 1
     ·
      (intro w hSw; (try dsimp only at hSw); go_simp; (try with_reducible rfl))
     try go_frame
     refine take_at (i := 2) (v := ?_) rfl (by kernel_rfl) (by kernel_rfl) (by kernel_rfl) (fun _ _ _ h => h) (Or.inl ⟨by rfl, ?_⟩) (by assumption) ?_
     rotate_left 1
     ·
      (intro w hSw; (try dsimp only at hSw); go_simp; (try with_reducible rfl))
     try go_frame
     refine take_at (i := 3) (v := undef) rfl (by kernel_rfl) (by kernel_rfl) (by kernel_rfl) (fun _ _ _ h => h) (Or.inr ⟨by rfl, rfl⟩) (by assumption) ?_
     try go_frame
     refine take_at (i := 4) (v := undef) rfl (by kernel_rfl) (by kernel_rfl) (by kernel_rfl) (fun _ _ _ h => h) (Or.inr ⟨by rfl, rfl⟩) (by assumption) ?_
     try go_frame
     refine take_at (i := 5) (v := undef) rfl (by kernel_rfl) (by kernel_rfl) (by kernel_rfl) (fun _ _ _ h => h) (Or.inr ⟨by rfl, rfl⟩) (by assumption) ?_
     try go_frame
     refine take_at (i := 6) (v := undef) rfl (by kernel_rfl) (by kernel_rfl) (by kernel_rfl) (fun _ _ _ h => h) (Or.inr ⟨by rfl, rfl⟩) (by assumption) ?_
     try go_frame
     refine take_at (i := 7) (v := undef) rfl (by kernel_rfl) (by kernel_rfl) (by kernel_rfl) (fun _ _ _ h => h) (Or.inr ⟨by rfl, rfl⟩) (by assumption) ?_
     try go_frame
     refine take_at (i := 8) (v := undef) rfl (by kernel_rfl) (by kernel_rfl) (by kernel_rfl) (fun _ _ _ h => h) (Or.inr ⟨by rfl, rfl⟩) (by assumption) ?_
     try go_frame
     refine take_at (i := 9) (v := undef) rfl (by kernel_rfl) (by kernel_rfl) (by kernel_rfl) (fun _ _ _ h => h) (Or.inr ⟨by rfl, rfl⟩) (by assumption) ?_
     try go_frame
     refine take_at (i := 10) (v := undef) rfl (by kernel_rfl) (by kernel_rfl) (by kernel_rfl) (fun _ _ _ h => h) (Or.inr ⟨by rfl, rfl⟩) (by assumption) ?_
     try go_frame
     refine take_at (i := 11) (v := undef) rfl (by kernel_rfl) (by kernel_rfl) (by kernel_rfl) (fun _ _ _ h => h) (Or.inr ⟨by rfl, rfl⟩) (by assumption) ?_
     try go_frame
     refine take_at (i := 12) (v := ?_) rfl (by kernel_rfl) (by kernel_rfl) (by kernel_rfl) (fun _ _ _ h => h) (Or.inl ⟨by rfl, ?_⟩) (by assumption) ?_
     rotate_left 1
     ·
      (intro w hSw; (try dsimp only at hSw); go_simp; (try with_reducible rfl))
     try go_frame
     refine wpAnyH_done (by kernel_rfl) ?_ _
     refine NoPanic.normal ?_
     clear hHeld r0 r1 r2 r3 z0
     go_wp2
     go_ret
     exact growC_of rfl (GA2.below hD1) (nz3.low (by omega)) (nz4.low (by omega)) (TT.tr hD1)
end Go.Proofs.YtaecfbfcjaailaaGreat
namespace Go.Proofs.YtaecfbfcjaailaaGreat
open Go.RowKit Plain Anylast
set_option linter.unusedVariables false
def OneS (B : Nat) (x : ByteArray) (v : Value) (w : World) : Prop := ∃ g, v = .slice (some ⟨g, 0, none⟩) 1 1 ∧ B ≤ g ∧ IsS w (some ⟨g, 0, none⟩) 1 [x]
theorem OneS.turns {B h : Nat} {x : ByteArray} {v : Value} {w w' : World} (hs : OneS B x v w) (hh : h < B) (t : Turns (fun k => k = h) w w') : OneS B x v w' := by
 obtain ⟨g, h1, h2, h3⟩ := hs
 exact ⟨g, h1, h2, h3.turns t (fun x hx e => by cases hx; have e' : g = h := e; omega)⟩
def pairV9 (z2 z3 B m1 m2 : Nat) (i tj : Int) (r1 r2 : Value) (key val : ByteArray) (xs ys : List ByteArray) (o : Nat) (v : Value) (w : World) : Prop :=
 match o with
 | 0 => v = .pointer (some ⟨z2, 1, none⟩)
 | 1 => v = r1
 | 2 => v = .int .i64 i
 | 3 => v = .int .i64 tj
 | 4 => v = .pointer (some ⟨z3, 0, none⟩)
 | 5 => v = .string key
 | 6 => OneS B key v w
 | 7 => GotS B m1 xs v w
 | 8 => v = .pointer (some ⟨z2, 2, none⟩)
 | 9 => v = r2
 | 10 => v = .int .i64 i
 | 11 => v = .int .i64 tj
 | 12 => v = .pointer (some ⟨z3, 1, none⟩)
 | 13 => v = .string val
 | 14 => OneS B val v w
 | 15 => GotS B m2 ys v w
 | 16 => ∃ u u', v = .agg #[.bool true, u, u', .slice none 0 0] ∧ GotS B m1 xs u w ∧ GotS B m2 ys u' w
 | _ => True
theorem pairV9_mono {z2 z3 B m1 m2 h : Nat} {i tj : Int} {r1 r2 : Value} {key val : ByteArray} {xs ys : List ByteArray} (hh : h < B) (o : Nat) (v : Value) (w w' : World) (t : Turns (fun k => k = h) w w') (hv : pairV9 z2 z3 B m1 m2 i tj r1 r2 key val xs ys o v w) : pairV9 z2 z3 B m1 m2 i tj r1 r2 key val xs ys o v w' := by
 unfold pairV9 at hv ⊢
 split at hv <;> first
  | exact hv
  | exact hv.turns hh t
  | (obtain ⟨u, u', h1, h2, h3⟩ := hv; exact ⟨u, u', h1, h2.turns hh t, h3.turns hh t⟩)
set_option maxRecDepth 20000 in
set_option maxHeartbeats 4000000 in
theorem withPair_any (a a' a'' : Option Addr) (c c' c'' n n' n'' m1 m2 : Nat) (ks vs : List ByteArray) (cs : List Int) (key val : ByteArray) (w : World) (hn : n = ks.length) (hn' : n' = vs.length) (hn'' : n'' = cs.length) (hK : IsS w a c ks) (hV : IsS w a' c' vs) (hC : IsI w a'' c'' cs)
  (hs : standsN true ks vs cs = true) (mk : key.size ≤ maxLen) (mv : val.size ≤ maxLen) (hm1 : m1 = (withPairN ks vs key val).2.1.length) (hm2 : m2 = (withPairN ks vs key val).2.2.1.length) :
  Calls Tryz.prog 54 #[.agg #[.bool true, .slice a n c, .slice a' n' c', .slice a'' n'' c''], .agg #[.string key, .string val]] w fun e w' => ∃ x1 y1 x2 y2, e = .returned (.agg #[.bool true, .slice x1 m1 y1, .slice x2 m2 y2, .slice none 0 0]) ∧ IsS w' x1 y1 (withPairN ks vs key val).2.1 ∧ IsS w' x2 y2 (withPairN ks vs key val).2.2.1 ∧ From w.heap.size x1 ∧ From w.heap.size x2 ∧ Below w.heap.size w w' := by
 obtain ⟨W, hW⟩ : ∃ W, W = ((w.alloc (.cells #[.bool true, .slice a n c, .slice a' n' c', .slice a'' n'' c''] 76)).alloc (.cells #[.string key, .string val] 50)).alloc (.cells #[.bool false, .slice none 0 0, .slice none 0 0, .slice none 0 0] 76) := ⟨_, rfl⟩
 have A2 : Box4 W w.heap.size (.bool true) (.slice a n c) (.slice a' n' c') (.slice a'' n'' c'') := by rw [hW]; exact ((box4_new _ _ _ _ _ _ rfl).alloc _).alloc _
 have A3 : Box2 W (w.heap.size + 1) (.string key) (.string val) := by rw [hW]; exact (box2_new _ _ _ _ (by simp)).alloc _
 have A4 : Box4 W (w.heap.size + 2) (.bool false) (.slice none 0 0) (.slice none 0 0) (.slice none 0 0) := by rw [hW]; exact box4_new _ _ _ _ _ _ (by simp)
 have HB : Below w.heap.size w W := by rw [hW]; exact (((Below.refl _ _).alloc (Nat.le_refl _) _).alloc (by simp) _).alloc (by simp; omega) _
 have cF0 : ∀ V, Below w.heap.size w V → Calls Tryz.prog 66 #[.agg #[.bool true, .slice a n c, .slice a' n' c', .slice a'' n'' c''], .string key] V fun e w' => e = .returned (.tuple #[.int .i64 (findR true ks vs cs key), .bool (findI true ks vs cs key)]) ∧ Below V.heap.size V w' := fun V h => nodeFind_any true a a' a'' c c' c'' n n' n'' ks vs cs key V hn hn' hn'' (hK.below h) (hV.below h) (hC.below h)
 have e1 : findR true ks vs cs key = (findN key ks : Nat) := by unfold findR; rw [if_pos hs]
 have e2 : findI true ks vs cs key = isN ks key := by unfold findI; rw [hs]; rfl
 rw [e1, e2] at cF0
 obtain ⟨h9, _, hr, _, _, hsh⟩ := standsN_iff.1 hs
 have hlen : vs.length = ks.length := (shape_leaf.1 hsh).1
 have hfle := findN_le key ks
 obtain ⟨i, hi⟩ : ∃ i, i = findN key ks := ⟨_, rfl⟩
 have en1 : (withPairN ks vs key val).2.1 = ks.take i ++ ([key] ++ ks.drop (i + (if isN ks key = true then 1 else 0))) := by unfold withPairN; rw [← hi]; rfl
 have en2 : (withPairN ks vs key val).2.2.1 = vs.take i ++ ([val] ++ vs.drop (i + (if isN ks key = true then 1 else 0))) := by unfold withPairN; rw [← hi]; rfl
 rw [en1] at hm1 ⊢
 rw [en2] at hm2 ⊢
 clear en1 en2
 have hin : i ≤ n := by omega
 have hil : isN ks key = true → i + 1 ≤ n := fun h => by have := (List.getElem?_eq_some_iff.1 (isN_iff.1 h)).1; omega
 rw [← hi] at cF0
 have hin' : (i : Int) ≤ 9 := by omega
 obtain ⟨j, hj⟩ : ∃ j, j = i + (if isN ks key = true then 1 else 0) := ⟨_, rfl⟩
 rw [← hj] at hm1 hm2 ⊢
 have hjn : j ≤ n := by rw [hj]; split; exact hil (by assumption); omega
 have hij : i ≤ j := by rw [hj]; omega
 have cK : ∀ V g, Below w.heap.size w V → IsS V (some ⟨g, 0, none⟩) 1 [key] → Calls Tryz.prog 68 #[.slice a n c, .int .i64 i, .int .i64 j, .slice (some ⟨g, 0, none⟩) 1 1] V fun e w' => ∃ b d, e = .returned (.slice b m1 d) ∧ IsS w' b d (ks.take i ++ ([key] ++ ks.drop j)) ∧ From V.heap.size b ∧ Below V.heap.size V w' := fun V g h h1 =>
  splicedS_any a (some ⟨g, 0, none⟩) c 1 n 1 i j m1 ks [key] V hn rfl (hK.below h) h1 hij hjn (by rw [hm1]; simp only [List.length_append, List.length_take, List.length_drop, List.length_cons, List.length_nil]; omega) (by omega) (by omega)
 have cV : ∀ V g, Below w.heap.size w V → IsS V (some ⟨g, 0, none⟩) 1 [val] → Calls Tryz.prog 68 #[.slice a' n' c', .int .i64 i, .int .i64 j, .slice (some ⟨g, 0, none⟩) 1 1] V fun e w' => ∃ b d, e = .returned (.slice b m2 d) ∧ IsS w' b d (vs.take i ++ ([val] ++ vs.drop j)) ∧ From V.heap.size b ∧ Below V.heap.size V w' := fun V g h h1 =>
  splicedS_any a' (some ⟨g, 0, none⟩) c' 1 n' 1 i j m2 vs [val] V hn' rfl (hV.below h) h1 hij (by omega) (by rw [hm2]; simp only [List.length_append, List.length_take, List.length_drop, List.length_cons, List.length_nil]; omega) (by omega) (by omega)
 generalize ks.take i ++ ([key] ++ ks.drop j) = XS at *
 generalize vs.take i ++ ([val] ++ vs.drop j) = YS at *
 obtain ⟨is, his⟩ : ∃ is, is = isN ks key := ⟨_, rfl⟩
 rw [← his] at cF0 hj
 have cF := cF0
 obtain ⟨⟨q0, q1, q2, q3⟩, -⟩ := id (hW ▸ A2)
 obtain ⟨⟨p0, p1⟩, -⟩ := id (hW ▸ A3)
 cases is with
 | true =>
  obtain ⟨tj, htj⟩ : ∃ t : Int, t = (i : Int) + 1 := ⟨_, rfl⟩
  have ej : (j : Int) = tj := by rw [htj, hj]; simp
  rw [ej] at cK cV
  clear hn hn' hn'' hK hV hC hs hm1 hm2 cF0 e1 e2 h9 hr hsh hlen hfle hi hil hj hjn hij his ej hin
  go_enter Tryz.func54, Tryz.ntmps54
  go_wp2_with (go_at_call 66; rw [← hW]; refine (cF _ HB).mono ?_; rintro y w1 ⟨rfl, hb⟩; replace HB := Below.tr HB hb; replace A2 := A2.below hb; replace A3 := A3.below hb; replace A4 := A4.below hb; clear q0 q1 q2 q3 p0 p1 hb)
  rw [← htj]
  clear htj
  generalize e4 : w.heap.size + 1 + 1 = z4
  generalize e3 : w.heap.size + 1 = z3
  generalize e2 : w.heap.size = z2
  obtain ⟨V0, hV0⟩ : ∃ V, V = w1.drew := ⟨_, rfl⟩
  replace HB : Below w.heap.size w V0 := by rw [hV0]; exact HB.drew
  replace A2 : Box4 V0 z2 (.bool true) (.slice a n c) (.slice a' n' c') (.slice a'' n'' c'') := by rw [hV0, ← e2]; exact A2.drew
  replace A3 : Box2 V0 z3 (.string key) (.string val) := by rw [hV0, ← e3]; exact A3.drew
  replace A4 : Box4 V0 z4 (.bool false) (.slice none 0 0) (.slice none 0 0) (.slice none 0 0) := by rw [hV0, ← e4]; exact A4.drew
  have z4B : z4 < V0.heap.size := A4.lt
  have hle4w : w.heap.size ≤ z4 := by omega
  have E2 : Hid (w.heap.size = z2) := e2
  have HV0 : Hid (V0 = w1.drew) := hV0
  clear e2 e3 e4 hV0 hW
  refine region_last (by kernel_rfl) 17 (pairV9 z2 z3 V0.heap.size m1 m2 (i : Int) tj (.slice a n c) (.slice a' n' c') key val XS YS) (fun u => Below V0.heap.size V0 u) (LeafT z4 V0.heap.size m1 m2 XS YS V0) (fun u u' => Turns (fun k => k = z4) u u') (by kernel_rfl) (by kernel_rfl) (fun i v u u' t hv => pairV9_mono z4B i v u u' t hv) (by rw [← HV0.out]; exact Below.refl _ _) ?step ?done
  case step =>
   intro o op ho ac u hS hdf hsz hdep hsame
   have B2 := A2.below hS
   have B3 := A3.below hS
   have B4 := A4.below hS
   have hsz0 : V0.heap.size ≤ u.heap.size := hS.size
   have HU : Hid (Below w.heap.size w u) := Below.tr HB hS
   obtain ⟨⟨q0, q1, q2, q3⟩, -⟩ := id B2
   obtain ⟨⟨p0, p1⟩, -⟩ := id B3
   obtain ⟨⟨r0, r1, r2, r3⟩, g0, g1, g2, g3⟩ := id B4
   match o, ho with
   | 0, ho =>
    cases ho
    have h2 := hsame 2 rfl
    exact op_value rfl (wanted_free rfl) (by clear hdep hsame hsz hdf; go_simp) rfl (by rw [if_neg (by decide)]; exact hS) (Turns.refl _ _)
   | 1, ho =>
    cases ho
    obtain ⟨_, h19, rfl⟩ := hdep 0 _ 19 rfl rfl rfl
    exact op_value rfl (wanted_free rfl) (by clear hdep hsame hsz hdf; go_simp) rfl (by rw [if_neg (by decide)]; exact hS) (Turns.refl _ _)
   | 2, ho =>
    cases ho
    have h5 := hsame 5 rfl
    exact op_value rfl (wanted_free rfl) (by clear hdep hsame hsz hdf; go_simp) rfl (by rw [if_neg (by decide)]; exact hS) (Turns.refl _ _)
   | 3, ho =>
    cases ho
    have h7 := hsame 7 rfl
    exact op_value rfl (wanted_free rfl) (by clear hdep hsame hsz hdf; go_simp) rfl (by rw [if_neg (by decide)]; exact hS) (Turns.refl _ _)
   | 4, ho =>
    cases ho
    have h3 := hsame 3 rfl
    exact op_value rfl (wanted_free rfl) (by clear hdep hsame hsz hdf; go_simp) rfl (by rw [if_neg (by decide)]; exact hS) (Turns.refl _ _)
   | 5, ho =>
    cases ho
    obtain ⟨_, h23, rfl⟩ := hdep 4 _ 23 rfl rfl rfl
    exact op_value rfl (wanted_free rfl) (by clear hdep hsame hsz hdf; go_simp) rfl (by rw [if_neg (by decide)]; exact hS) (Turns.refl _ _)
   | 6, ho =>
    cases ho
    obtain ⟨_, h24, rfl⟩ := hdep 5 _ 24 rfl rfl rfl
    exact op_value (v := .slice (some ⟨u.heap.size, 0, none⟩) 1 1) (w' := u.alloc (.cells #[.string key] 9)) rfl (wanted_free rfl) (by clear hdep hsame hsz hdf; go_simp) ⟨u.heap.size, rfl, hsz0, isS_one u key mk⟩ (by rw [if_neg (by decide)]; exact hS.alloc hsz0 _) ((Turns.refl _ _).alloc _)
   | 7, ho =>
    cases ho
    obtain ⟨_, h20, rfl⟩ := hdep 1 _ 20 rfl rfl rfl
    obtain ⟨_, h21, rfl⟩ := hdep 2 _ 21 rfl rfl rfl
    obtain ⟨_, h22, rfl⟩ := hdep 3 _ 22 rfl rfl rfl
    obtain ⟨_, h25, g, rfl, hg, i0⟩ := hdep 6 _ 25 rfl rfl rfl
    refine op_call (w' := u) rfl (wanted_free rfl) (by clear hdep hsame hsz hdf i0; go_simp) ((cK u g HU.out i0).mono ?_)
    rintro y u' ⟨p, q, rfl, i1, j1, hb⟩
    exact ⟨_, rfl, ⟨p, q, rfl, i1, j1.mono hsz0⟩, by rw [if_neg (by decide)]; exact hS.trans (hb.mono hsz0), Turns.of_below hb⟩
   | 8, ho =>
    cases ho
    have h2 := hsame 2 rfl
    exact op_value rfl (wanted_free rfl) (by clear hdep hsame hsz hdf; go_simp) rfl (by rw [if_neg (by decide)]; exact hS) (Turns.refl _ _)
   | 9, ho =>
    cases ho
    obtain ⟨_, h27, rfl⟩ := hdep 8 _ 27 rfl rfl rfl
    exact op_value rfl (wanted_free rfl) (by clear hdep hsame hsz hdf; go_simp) rfl (by rw [if_neg (by decide)]; exact hS) (Turns.refl _ _)
   | 10, ho =>
    cases ho
    have h5 := hsame 5 rfl
    exact op_value rfl (wanted_free rfl) (by clear hdep hsame hsz hdf; go_simp) rfl (by rw [if_neg (by decide)]; exact hS) (Turns.refl _ _)
   | 11, ho =>
    cases ho
    have h7 := hsame 7 rfl
    exact op_value rfl (wanted_free rfl) (by clear hdep hsame hsz hdf; go_simp) rfl (by rw [if_neg (by decide)]; exact hS) (Turns.refl _ _)
   | 12, ho =>
    cases ho
    have h3 := hsame 3 rfl
    exact op_value rfl (wanted_free rfl) (by clear hdep hsame hsz hdf; go_simp) rfl (by rw [if_neg (by decide)]; exact hS) (Turns.refl _ _)
   | 13, ho =>
    cases ho
    obtain ⟨_, h31, rfl⟩ := hdep 12 _ 31 rfl rfl rfl
    exact op_value rfl (wanted_free rfl) (by clear hdep hsame hsz hdf; go_simp) rfl (by rw [if_neg (by decide)]; exact hS) (Turns.refl _ _)
   | 14, ho =>
    cases ho
    obtain ⟨_, h32, rfl⟩ := hdep 13 _ 32 rfl rfl rfl
    exact op_value (v := .slice (some ⟨u.heap.size, 0, none⟩) 1 1) (w' := u.alloc (.cells #[.string val] 9)) rfl (wanted_free rfl) (by clear hdep hsame hsz hdf; go_simp) ⟨u.heap.size, rfl, hsz0, isS_one u val mv⟩ (by rw [if_neg (by decide)]; exact hS.alloc hsz0 _) ((Turns.refl _ _).alloc _)
   | 15, ho =>
    cases ho
    obtain ⟨_, h28, rfl⟩ := hdep 9 _ 28 rfl rfl rfl
    obtain ⟨_, h29, rfl⟩ := hdep 10 _ 29 rfl rfl rfl
    obtain ⟨_, h30, rfl⟩ := hdep 11 _ 30 rfl rfl rfl
    obtain ⟨_, h33, g, rfl, hg, i0⟩ := hdep 14 _ 33 rfl rfl rfl
    refine op_call (w' := u) rfl (wanted_free rfl) (by clear hdep hsame hsz hdf i0; go_simp) ((cV u g HU.out i0).mono ?_)
    rintro y u' ⟨p, q, rfl, i1, j1, hb⟩
    exact ⟨_, rfl, ⟨p, q, rfl, i1, j1.mono hsz0⟩, by rw [if_neg (by decide)]; exact hS.trans (hb.mono hsz0), Turns.of_below hb⟩
   | 16, ho =>
    cases ho
    obtain ⟨_, h26, G1⟩ := hdep 7 _ 26 rfl rfl rfl
    obtain ⟨_, h34, G2⟩ := hdep 15 _ 34 rfl rfl rfl
    obtain ⟨x1, y1, rfl, i1, j1⟩ := id G1
    obtain ⟨x2, y2, rfl, i2, j2⟩ := id G2
    exact op_value (v := .agg #[.bool true, .slice x1 m1 y1, .slice x2 m2 y2, .slice none 0 0]) rfl (wanted_free rfl) (by clear hdep hsame hsz hdf G1 G2 i1 i2 j1 j2; go_simp) ⟨_, _, rfl, G1, G2⟩ (by rw [if_neg (by decide)]; exact hS) (Turns.refl _ _)
   | 17, ho =>
    cases ho
    have h4 := hsame 4 rfl
    obtain ⟨_, h35, u1, u2, rfl, G1, G2⟩ := hdep 16 _ 35 rfl rfl rfl
    obtain ⟨x1, y1, rfl, i1, j1⟩ := id G1
    obtain ⟨x2, y2, rfl, i2, j2⟩ := id G2
    have T4 := turns_put4 u z4 (.bool true) (.slice x1 m1 y1) (.slice x2 m2 y2) (.slice none 0 0)
    have HT : LeafT z4 V0.heap.size m1 m2 XS YS V0 ((((u.setCell ⟨z4, 0, none⟩ (.bool true)).setCell ⟨z4, 1, none⟩ (.slice x1 m1 y1)).setCell ⟨z4, 2, none⟩ (.slice x2 m2 y2)).setCell ⟨z4, 3, none⟩ (.slice none 0 0)) := ⟨_, _, B4.put _ _ _ _, G1.turns z4B T4, G2.turns z4B T4, (Turns.of_below hS).trans T4⟩
    exact op_skip rfl (wanted_free rfl) rfl (by clear hdep hsame hsz hdf G1 G2 i1 i2 j1 j2 T4 HT; go_simp) trivial (by rw [if_pos rfl]; exact HT) T4
   | k + 18, ho => simp at ho
  case done =>
   intro ac W3 hT hdf hsz hsame hval
   obtain ⟨v19, h19, hv19⟩ := hval 0 _ 19 rfl rfl
   obtain ⟨v20, h20, hv20⟩ := hval 1 _ 20 rfl rfl
   obtain ⟨v21, h21, hv21⟩ := hval 2 _ 21 rfl rfl
   obtain ⟨v22, h22, hv22⟩ := hval 3 _ 22 rfl rfl
   obtain ⟨v23, h23, hv23⟩ := hval 4 _ 23 rfl rfl
   obtain ⟨v24, h24, hv24⟩ := hval 5 _ 24 rfl rfl
   obtain ⟨v25, h25, hv25⟩ := hval 6 _ 25 rfl rfl
   obtain ⟨v26, h26, hv26⟩ := hval 7 _ 26 rfl rfl
   obtain ⟨v27, h27, hv27⟩ := hval 8 _ 27 rfl rfl
   obtain ⟨v28, h28, hv28⟩ := hval 9 _ 28 rfl rfl
   obtain ⟨v29, h29, hv29⟩ := hval 10 _ 29 rfl rfl
   obtain ⟨v30, h30, hv30⟩ := hval 11 _ 30 rfl rfl
   obtain ⟨v31, h31, hv31⟩ := hval 12 _ 31 rfl rfl
   obtain ⟨v32, h32, hv32⟩ := hval 13 _ 32 rfl rfl
   obtain ⟨v33, h33, hv33⟩ := hval 14 _ 33 rfl rfl
   obtain ⟨v34, h34, hv34⟩ := hval 15 _ 34 rfl rfl
   obtain ⟨v35, h35, hv35⟩ := hval 16 _ 35 rfl rfl
   obtain rfl := Anyorder.frame_is (l := [_, _, _, _, _, _, _, _, _, _, _, _, _, _, _, _, _, _, _, _, _, _, _, _, _, _, _, _, _, _, _, _, _, _, _, _]) ⟨(hsame 0 (Anyorder.unwritten (by kernel_rfl))).trans rfl, (hsame 1 (Anyorder.unwritten (by kernel_rfl))).trans rfl, (hsame 2 (Anyorder.unwritten (by kernel_rfl))).trans rfl, (hsame 3 (Anyorder.unwritten (by kernel_rfl))).trans rfl, (hsame 4 (Anyorder.unwritten (by kernel_rfl))).trans rfl, (hsame 5 (Anyorder.unwritten (by kernel_rfl))).trans rfl, (hsame 6 (Anyorder.unwritten (by kernel_rfl))).trans rfl, (hsame 7 (Anyorder.unwritten (by kernel_rfl))).trans rfl, (hsame 8 (Anyorder.unwritten (by kernel_rfl))).trans rfl, (hsame 9 (Anyorder.unwritten (by kernel_rfl))).trans rfl, (hsame 10 (Anyorder.unwritten (by kernel_rfl))).trans rfl, (hsame 11 (Anyorder.unwritten (by kernel_rfl))).trans rfl, (hsame 12 (Anyorder.unwritten (by kernel_rfl))).trans rfl, (hsame 13 (Anyorder.unwritten (by kernel_rfl))).trans rfl, (hsame 14 (Anyorder.unwritten (by kernel_rfl))).trans rfl, (hsame 15 (Anyorder.unwritten (by kernel_rfl))).trans rfl, (hsame 16 (Anyorder.unwritten (by kernel_rfl))).trans rfl, (hsame 17 (Anyorder.unwritten (by kernel_rfl))).trans rfl, (hsame 18 (Anyorder.unwritten (by kernel_rfl))).trans rfl, h19, h20, h21, h22, h23, h24, h25, h26, h27, h28, h29, h30, h31, h32, h33, h34, h35, trivial⟩ hdf hsz
   obtain ⟨u1, u2, X4, ⟨x1, y1, rfl, i1, j1⟩, ⟨x2, y2, rfl, i2, j2⟩, T3⟩ := hT
   have hle4 : w.heap.size ≤ V0.heap.size := HB.size
   have B5 : Below w.heap.size w W3 := Below.turns HB T3 (fun k hk => by omega)
   obtain ⟨⟨r0, r1, r2, r3⟩, -⟩ := X4
   clear hval hsame hsz hdf A2 A3 A4 HB T3
   go_wp2
   exact bodyPost_ret (v := .agg #[.bool true, .slice x1 m1 y1, .slice x2 m2 y2, .slice none 0 0]) (by simp [results, Tryz.results54, go_sem, r0, r1, r2, r3]) rfl ⟨x1, y1, x2, y2, rfl, i1, i2, by first | exact j1.mono hle4 | (rw [← E2.out]; exact j1.mono hle4), by first | exact j2.mono hle4 | (rw [← E2.out]; exact j2.mono hle4), by first | exact B5 | (rw [← E2.out]; exact B5)⟩
 | false =>
  obtain ⟨tj, htj⟩ : ∃ t : Int, t = (i : Int) := ⟨_, rfl⟩
  have ej : (j : Int) = tj := by rw [htj, hj]; simp
  rw [ej] at cK cV
  subst htj
  clear hn hn' hn'' hK hV hC hs hm1 hm2 cF0 e1 e2 h9 hr hsh hlen hfle hi hil hj hjn hij his ej hin
  go_enter Tryz.func54, Tryz.ntmps54
  go_wp2_with (go_at_call 66; rw [← hW]; refine (cF _ HB).mono ?_; rintro y w1 ⟨rfl, hb⟩; replace HB := Below.tr HB hb; replace A2 := A2.below hb; replace A3 := A3.below hb; replace A4 := A4.below hb; clear q0 q1 q2 q3 p0 p1 hb)
  generalize e4 : w.heap.size + 1 + 1 = z4
  generalize e3 : w.heap.size + 1 = z3
  generalize e2 : w.heap.size = z2
  obtain ⟨V0, hV0⟩ : ∃ V, V = w1.drew := ⟨_, rfl⟩
  replace HB : Below w.heap.size w V0 := by rw [hV0]; exact HB.drew
  replace A2 : Box4 V0 z2 (.bool true) (.slice a n c) (.slice a' n' c') (.slice a'' n'' c'') := by rw [hV0, ← e2]; exact A2.drew
  replace A3 : Box2 V0 z3 (.string key) (.string val) := by rw [hV0, ← e3]; exact A3.drew
  replace A4 : Box4 V0 z4 (.bool false) (.slice none 0 0) (.slice none 0 0) (.slice none 0 0) := by rw [hV0, ← e4]; exact A4.drew
  have z4B : z4 < V0.heap.size := A4.lt
  have hle4w : w.heap.size ≤ z4 := by omega
  have E2 : Hid (w.heap.size = z2) := e2
  have HV0 : Hid (V0 = w1.drew) := hV0
  clear e2 e3 e4 hV0 hW
  refine region_last (by kernel_rfl) 17 (pairV9 z2 z3 V0.heap.size m1 m2 (i : Int) i (.slice a n c) (.slice a' n' c') key val XS YS) (fun u => Below V0.heap.size V0 u) (LeafT z4 V0.heap.size m1 m2 XS YS V0) (fun u u' => Turns (fun k => k = z4) u u') (by kernel_rfl) (by kernel_rfl) (fun i v u u' t hv => pairV9_mono z4B i v u u' t hv) (by rw [← HV0.out]; exact Below.refl _ _) ?step ?done
  case step =>
   intro o op ho ac u hS hdf hsz hdep hsame
   have B2 := A2.below hS
   have B3 := A3.below hS
   have B4 := A4.below hS
   have hsz0 : V0.heap.size ≤ u.heap.size := hS.size
   have HU : Hid (Below w.heap.size w u) := Below.tr HB hS
   obtain ⟨⟨q0, q1, q2, q3⟩, -⟩ := id B2
   obtain ⟨⟨p0, p1⟩, -⟩ := id B3
   obtain ⟨⟨r0, r1, r2, r3⟩, g0, g1, g2, g3⟩ := id B4
   match o, ho with
   | 0, ho =>
    cases ho
    have h2 := hsame 2 rfl
    exact op_value rfl (wanted_free rfl) (by clear hdep hsame hsz hdf; go_simp) rfl (by rw [if_neg (by decide)]; exact hS) (Turns.refl _ _)
   | 1, ho =>
    cases ho
    obtain ⟨_, h19, rfl⟩ := hdep 0 _ 19 rfl rfl rfl
    exact op_value rfl (wanted_free rfl) (by clear hdep hsame hsz hdf; go_simp) rfl (by rw [if_neg (by decide)]; exact hS) (Turns.refl _ _)
   | 2, ho =>
    cases ho
    have h5 := hsame 5 rfl
    exact op_value rfl (wanted_free rfl) (by clear hdep hsame hsz hdf; go_simp) rfl (by rw [if_neg (by decide)]; exact hS) (Turns.refl _ _)
   | 3, ho =>
    cases ho
    have h7 := hsame 7 rfl
    exact op_value rfl (wanted_free rfl) (by clear hdep hsame hsz hdf; go_simp) rfl (by rw [if_neg (by decide)]; exact hS) (Turns.refl _ _)
   | 4, ho =>
    cases ho
    have h3 := hsame 3 rfl
    exact op_value rfl (wanted_free rfl) (by clear hdep hsame hsz hdf; go_simp) rfl (by rw [if_neg (by decide)]; exact hS) (Turns.refl _ _)
   | 5, ho =>
    cases ho
    obtain ⟨_, h23, rfl⟩ := hdep 4 _ 23 rfl rfl rfl
    exact op_value rfl (wanted_free rfl) (by clear hdep hsame hsz hdf; go_simp) rfl (by rw [if_neg (by decide)]; exact hS) (Turns.refl _ _)
   | 6, ho =>
    cases ho
    obtain ⟨_, h24, rfl⟩ := hdep 5 _ 24 rfl rfl rfl
    exact op_value (v := .slice (some ⟨u.heap.size, 0, none⟩) 1 1) (w' := u.alloc (.cells #[.string key] 9)) rfl (wanted_free rfl) (by clear hdep hsame hsz hdf; go_simp) ⟨u.heap.size, rfl, hsz0, isS_one u key mk⟩ (by rw [if_neg (by decide)]; exact hS.alloc hsz0 _) ((Turns.refl _ _).alloc _)
   | 7, ho =>
    cases ho
    obtain ⟨_, h20, rfl⟩ := hdep 1 _ 20 rfl rfl rfl
    obtain ⟨_, h21, rfl⟩ := hdep 2 _ 21 rfl rfl rfl
    obtain ⟨_, h22, rfl⟩ := hdep 3 _ 22 rfl rfl rfl
    obtain ⟨_, h25, g, rfl, hg, i0⟩ := hdep 6 _ 25 rfl rfl rfl
    refine op_call (w' := u) rfl (wanted_free rfl) (by clear hdep hsame hsz hdf i0; go_simp) ((cK u g HU.out i0).mono ?_)
    rintro y u' ⟨p, q, rfl, i1, j1, hb⟩
    exact ⟨_, rfl, ⟨p, q, rfl, i1, j1.mono hsz0⟩, by rw [if_neg (by decide)]; exact hS.trans (hb.mono hsz0), Turns.of_below hb⟩
   | 8, ho =>
    cases ho
    have h2 := hsame 2 rfl
    exact op_value rfl (wanted_free rfl) (by clear hdep hsame hsz hdf; go_simp) rfl (by rw [if_neg (by decide)]; exact hS) (Turns.refl _ _)
   | 9, ho =>
    cases ho
    obtain ⟨_, h27, rfl⟩ := hdep 8 _ 27 rfl rfl rfl
    exact op_value rfl (wanted_free rfl) (by clear hdep hsame hsz hdf; go_simp) rfl (by rw [if_neg (by decide)]; exact hS) (Turns.refl _ _)
   | 10, ho =>
    cases ho
    have h5 := hsame 5 rfl
    exact op_value rfl (wanted_free rfl) (by clear hdep hsame hsz hdf; go_simp) rfl (by rw [if_neg (by decide)]; exact hS) (Turns.refl _ _)
   | 11, ho =>
    cases ho
    have h7 := hsame 7 rfl
    exact op_value rfl (wanted_free rfl) (by clear hdep hsame hsz hdf; go_simp) rfl (by rw [if_neg (by decide)]; exact hS) (Turns.refl _ _)
   | 12, ho =>
    cases ho
    have h3 := hsame 3 rfl
    exact op_value rfl (wanted_free rfl) (by clear hdep hsame hsz hdf; go_simp) rfl (by rw [if_neg (by decide)]; exact hS) (Turns.refl _ _)
   | 13, ho =>
    cases ho
    obtain ⟨_, h31, rfl⟩ := hdep 12 _ 31 rfl rfl rfl
    exact op_value rfl (wanted_free rfl) (by clear hdep hsame hsz hdf; go_simp) rfl (by rw [if_neg (by decide)]; exact hS) (Turns.refl _ _)
   | 14, ho =>
    cases ho
    obtain ⟨_, h32, rfl⟩ := hdep 13 _ 32 rfl rfl rfl
    exact op_value (v := .slice (some ⟨u.heap.size, 0, none⟩) 1 1) (w' := u.alloc (.cells #[.string val] 9)) rfl (wanted_free rfl) (by clear hdep hsame hsz hdf; go_simp) ⟨u.heap.size, rfl, hsz0, isS_one u val mv⟩ (by rw [if_neg (by decide)]; exact hS.alloc hsz0 _) ((Turns.refl _ _).alloc _)
   | 15, ho =>
    cases ho
    obtain ⟨_, h28, rfl⟩ := hdep 9 _ 28 rfl rfl rfl
    obtain ⟨_, h29, rfl⟩ := hdep 10 _ 29 rfl rfl rfl
    obtain ⟨_, h30, rfl⟩ := hdep 11 _ 30 rfl rfl rfl
    obtain ⟨_, h33, g, rfl, hg, i0⟩ := hdep 14 _ 33 rfl rfl rfl
    refine op_call (w' := u) rfl (wanted_free rfl) (by clear hdep hsame hsz hdf i0; go_simp) ((cV u g HU.out i0).mono ?_)
    rintro y u' ⟨p, q, rfl, i1, j1, hb⟩
    exact ⟨_, rfl, ⟨p, q, rfl, i1, j1.mono hsz0⟩, by rw [if_neg (by decide)]; exact hS.trans (hb.mono hsz0), Turns.of_below hb⟩
   | 16, ho =>
    cases ho
    obtain ⟨_, h26, G1⟩ := hdep 7 _ 26 rfl rfl rfl
    obtain ⟨_, h34, G2⟩ := hdep 15 _ 34 rfl rfl rfl
    obtain ⟨x1, y1, rfl, i1, j1⟩ := id G1
    obtain ⟨x2, y2, rfl, i2, j2⟩ := id G2
    exact op_value (v := .agg #[.bool true, .slice x1 m1 y1, .slice x2 m2 y2, .slice none 0 0]) rfl (wanted_free rfl) (by clear hdep hsame hsz hdf G1 G2 i1 i2 j1 j2; go_simp) ⟨_, _, rfl, G1, G2⟩ (by rw [if_neg (by decide)]; exact hS) (Turns.refl _ _)
   | 17, ho =>
    cases ho
    have h4 := hsame 4 rfl
    obtain ⟨_, h35, u1, u2, rfl, G1, G2⟩ := hdep 16 _ 35 rfl rfl rfl
    obtain ⟨x1, y1, rfl, i1, j1⟩ := id G1
    obtain ⟨x2, y2, rfl, i2, j2⟩ := id G2
    have T4 := turns_put4 u z4 (.bool true) (.slice x1 m1 y1) (.slice x2 m2 y2) (.slice none 0 0)
    have HT : LeafT z4 V0.heap.size m1 m2 XS YS V0 ((((u.setCell ⟨z4, 0, none⟩ (.bool true)).setCell ⟨z4, 1, none⟩ (.slice x1 m1 y1)).setCell ⟨z4, 2, none⟩ (.slice x2 m2 y2)).setCell ⟨z4, 3, none⟩ (.slice none 0 0)) := ⟨_, _, B4.put _ _ _ _, G1.turns z4B T4, G2.turns z4B T4, (Turns.of_below hS).trans T4⟩
    exact op_skip rfl (wanted_free rfl) rfl (by clear hdep hsame hsz hdf G1 G2 i1 i2 j1 j2 T4 HT; go_simp) trivial (by rw [if_pos rfl]; exact HT) T4
   | k + 18, ho => simp at ho
  case done =>
   intro ac W3 hT hdf hsz hsame hval
   obtain ⟨v19, h19, hv19⟩ := hval 0 _ 19 rfl rfl
   obtain ⟨v20, h20, hv20⟩ := hval 1 _ 20 rfl rfl
   obtain ⟨v21, h21, hv21⟩ := hval 2 _ 21 rfl rfl
   obtain ⟨v22, h22, hv22⟩ := hval 3 _ 22 rfl rfl
   obtain ⟨v23, h23, hv23⟩ := hval 4 _ 23 rfl rfl
   obtain ⟨v24, h24, hv24⟩ := hval 5 _ 24 rfl rfl
   obtain ⟨v25, h25, hv25⟩ := hval 6 _ 25 rfl rfl
   obtain ⟨v26, h26, hv26⟩ := hval 7 _ 26 rfl rfl
   obtain ⟨v27, h27, hv27⟩ := hval 8 _ 27 rfl rfl
   obtain ⟨v28, h28, hv28⟩ := hval 9 _ 28 rfl rfl
   obtain ⟨v29, h29, hv29⟩ := hval 10 _ 29 rfl rfl
   obtain ⟨v30, h30, hv30⟩ := hval 11 _ 30 rfl rfl
   obtain ⟨v31, h31, hv31⟩ := hval 12 _ 31 rfl rfl
   obtain ⟨v32, h32, hv32⟩ := hval 13 _ 32 rfl rfl
   obtain ⟨v33, h33, hv33⟩ := hval 14 _ 33 rfl rfl
   obtain ⟨v34, h34, hv34⟩ := hval 15 _ 34 rfl rfl
   obtain ⟨v35, h35, hv35⟩ := hval 16 _ 35 rfl rfl
   obtain rfl := Anyorder.frame_is (l := [_, _, _, _, _, _, _, _, _, _, _, _, _, _, _, _, _, _, _, _, _, _, _, _, _, _, _, _, _, _, _, _, _, _, _, _]) ⟨(hsame 0 (Anyorder.unwritten (by kernel_rfl))).trans rfl, (hsame 1 (Anyorder.unwritten (by kernel_rfl))).trans rfl, (hsame 2 (Anyorder.unwritten (by kernel_rfl))).trans rfl, (hsame 3 (Anyorder.unwritten (by kernel_rfl))).trans rfl, (hsame 4 (Anyorder.unwritten (by kernel_rfl))).trans rfl, (hsame 5 (Anyorder.unwritten (by kernel_rfl))).trans rfl, (hsame 6 (Anyorder.unwritten (by kernel_rfl))).trans rfl, (hsame 7 (Anyorder.unwritten (by kernel_rfl))).trans rfl, (hsame 8 (Anyorder.unwritten (by kernel_rfl))).trans rfl, (hsame 9 (Anyorder.unwritten (by kernel_rfl))).trans rfl, (hsame 10 (Anyorder.unwritten (by kernel_rfl))).trans rfl, (hsame 11 (Anyorder.unwritten (by kernel_rfl))).trans rfl, (hsame 12 (Anyorder.unwritten (by kernel_rfl))).trans rfl, (hsame 13 (Anyorder.unwritten (by kernel_rfl))).trans rfl, (hsame 14 (Anyorder.unwritten (by kernel_rfl))).trans rfl, (hsame 15 (Anyorder.unwritten (by kernel_rfl))).trans rfl, (hsame 16 (Anyorder.unwritten (by kernel_rfl))).trans rfl, (hsame 17 (Anyorder.unwritten (by kernel_rfl))).trans rfl, (hsame 18 (Anyorder.unwritten (by kernel_rfl))).trans rfl, h19, h20, h21, h22, h23, h24, h25, h26, h27, h28, h29, h30, h31, h32, h33, h34, h35, trivial⟩ hdf hsz
   obtain ⟨u1, u2, X4, ⟨x1, y1, rfl, i1, j1⟩, ⟨x2, y2, rfl, i2, j2⟩, T3⟩ := hT
   have hle4 : w.heap.size ≤ V0.heap.size := HB.size
   have B5 : Below w.heap.size w W3 := Below.turns HB T3 (fun k hk => by omega)
   obtain ⟨⟨r0, r1, r2, r3⟩, -⟩ := X4
   clear hval hsame hsz hdf A2 A3 A4 HB T3
   go_wp2
   exact bodyPost_ret (v := .agg #[.bool true, .slice x1 m1 y1, .slice x2 m2 y2, .slice none 0 0]) (by simp [results, Tryz.results54, go_sem, r0, r1, r2, r3]) rfl ⟨x1, y1, x2, y2, rfl, i1, i2, by first | exact j1.mono hle4 | (rw [← E2.out]; exact j1.mono hle4), by first | exact j2.mono hle4 | (rw [← E2.out]; exact j2.mono hle4), by first | exact B5 | (rw [← E2.out]; exact B5)⟩
end Go.Proofs.YtaecfbfcjaailaaGreat

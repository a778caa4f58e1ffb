/-
  Texts laid together: CheckThrough CheckOwn CheckTree CheckDo AllocRefNew CheckAlive LookOpen CheckLaw CheckLostP.
-/
import Derived.Test.YtpepgpjiddophaaSlB
import Derived.BigQuiet
import Derived.Deep.RegionHeld3
import Derived.Lib.AppendZeros
import Derived.Test.YtpepgpjiddophaaSlA
import Derived.Lib.SmallJoins
import Derived.Maps.RangeWalk
namespace Go.Proofs.Ytpepgpjiddophaa
open Go.RowKit Plain
set_option linter.unusedVariables false
def ClimbsAt (w : World) (h g N : Nat) (v0 v1 v2 v3 v4 : Value) (H : Int → Bool → Option NodeS) (k : Nat) : Prop :=
 ∀ (V : World) (s : ClimbS) (block d : Int) (low high : ByteArray), Below w.heap.size w V → ClimbAt V h g N v0 v1 v2 v3 v4 s → Room s → d = 9 - (k : Int) →
  Calls Try.prog 20 #[.pointer (some ⟨h, 0, none⟩), .agg #[.int .i64 block, .int .i64 d, .string low, .string high]] V fun e V' => e = .returned (.int .i64 (climbS H k s block low high).1) ∧ ClimbAt V' h g N v0 v1 v2 v3 v4 (climbS H k s block low high).2 ∧ Turns (fun k => k = h ∨ k = g) V V'
def LoadedN (nl : Bool) (nk nv : List ByteArray) (nc : List Int) (V0 X : World) (q : Nat) (a1 : Option Addr) (k1 d1 : Nat) (a2 : Option Addr) (k2 d2 : Nat) (a3 : Option Addr) (k3 d3 : Nat) : Prop :=
 NodeLo X V0.heap.size q nl a1 k1 d1 a2 k2 d2 a3 k3 d3 nk nv nc ∧ Below V0.heap.size V0 X
theorem ClimbAt.taken {V : World} {h g N : Nat} {v0 v1 v2 v3 v4 : Value} {c : ClimbS} {b : Int} (n : ClimbAt V h g N v0 v1 v2 v3 v4 ⟨c.held.set b.toNat true, c.pairs, c.height, c.blocks⟩) {m : Nat} (hm : m = c.blocks + 1) : ClimbAt (V.setCell ⟨h, 7, none⟩ (.int .i64 m)) h g N v0 v1 v2 v3 v4 (c.take b) := by
 subst hm
 exact n.set7 (c.blocks + 1)
theorem fold_stays {α β : Type} (f : β → α → β) (r : β) (h : ∀ x, f r x = r) : ∀ l : List α, l.foldl f r = r
 | [] => rfl
 | x :: l => by rw [List.foldl_cons, h]; exact fold_stays f r h l
set_option maxRecDepth 20000 in
set_option maxHeartbeats 4000000 in
theorem climb_step (w : World) (h g : Nat) (a a' b : Option Addr) (n c n' c' p f : Nat) (bs ns : List Bool) (ps : List ByteArray) (root gen : Int) (hn : n = bs.length) (hn' : n' = ns.length) (hp : p = ps.length) (hr : rightW bs ns ps root gen = true) (hwh : w.heap.size ≤ h) (hwg : w.heap.size ≤ g) (hB : IsB w a c bs) (hB' : IsB w a' c' ns) (hP : IsS w b f ps) (N : Nat) (hN : N ≤ 9223372036854775807) (k : Nat) (hk : k ≤ 8)
  (IH : ∀ k', k = k' + 1 → ClimbsAt w h g N (.slice a n c) (.slice a' n' c') (.slice b p f) (.int .i64 root) (.int .i64 gen) (holdsS ns ps gen) k') :
  ClimbsAt w h g N (.slice a n c) (.slice a' n' c') (.slice b p f) (.int .i64 root) (.int .i64 gen) (holdsS ns ps gen) k := by
 intro V s block d low high hV D hsm hd
 obtain ⟨W, hW⟩ : ∃ W, W = V.alloc (.cells #[.int .i64 block, .int .i64 d, .string low, .string high] 58) := ⟨_, rfl⟩
 have HW : Below V.heap.size V W := by rw [hW]; exact (Below.refl _ _).alloc (Nat.le_refl _) _
 have BP : Box4 W V.heap.size (.int .i64 block) (.int .i64 d) (.string low) (.string high) := by rw [hW]; exact box4_new _ _ _ _ _ _ rfl
 have hlt : h < V.heap.size := D.lt
 have hltg : g < V.heap.size := D.row.lt
 have T : Turns (fun k => k = h ∨ k = g) V W := Turns.of_below HW
 replace D := D.below HW
 have HB : Below w.heap.size w W := Below.tr hV HW
 obtain ⟨O, hO⟩ : ∃ O, O = holdsS ns ps gen block (d == 1) := ⟨_, rfl⟩
 obtain ⟨⟨nl, nk, nv, nc⟩, hnd⟩ : ∃ nd, nd = nodeO O := ⟨_, rfl⟩
 obtain ⟨E, hE⟩ : ∃ E, E = errO O := ⟨_, rfl⟩
 have cV : ∀ U, Below w.heap.size w U → Calls Try.prog 25 #[.agg #[.slice a n c, .slice a' n' c', .slice b p f, .int .i64 root, .int .i64 gen], .int .i64 block, .bool (d == 1)] U fun x V' => Answers U x V' nl nk nv nc E := fun U hU => by
  have := lookLoad_any a a' b n c n' c' p f bs ns ps root gen block (d == 1) U hn hn' hp (hB.below hU) (hB'.below hU) (hP.below hU)
  rw [hr, ← hO] at this
  refine this.mono fun x w' hh => ?_
  have h2 := (loadC_true _ _ _ _).1 hh
  rw [← hnd, ← hE] at h2
  exact h2
 have HO : Hid (O = holdsS ns ps gen block (d == 1) ∧ (nl, nk, nv, nc) = nodeO O ∧ E = errO O ∧ d = 9 - (k : Int)) := ⟨hO, hnd, hE, hd⟩
 have H9 : Hid (∀ b r (nd : NodeS), holdsS ns ps gen b r = some nd → nd.2.1.length ≤ 9) := fun b r nd hh => (holds_len b r nd hh).1
 have stands : Hid (∀ nd, O = some nd → standsN nd.1 nd.2.1 nd.2.2.1 nd.2.2.2 = true ∧ nd.2.1.length ≤ 9) := fun nd hh => by
  rw [hO] at hh
  exact ⟨(rightN_iff.1 (holds_right hh)).1, (holds_len _ _ _ hh).1⟩
 have HIH : Hid (∀ k', k = k' + 1 → ClimbsAt w h g N (.slice a n c) (.slice a' n' c') (.slice b p f) (.int .i64 root) (.int .i64 gen) (holdsS ns ps gen) k') := IH
 have HM : Hid (Room s ∧ k ≤ 8) := ⟨hsm, hk⟩
 obtain ⟨H, hH⟩ : ∃ H, H = holdsS ns ps gen := ⟨_, rfl⟩
 rw [← hH] at HO HIH H9 ⊢
 obtain ⟨R, hRES⟩ : ∃ r, r = climbS H k s block low high := ⟨_, rfl⟩
 rw [← hRES]
 have HRES : Hid (R = climbS H k s block low high) := hRES
 clear hRES
 obtain ⟨⟨p0, p1, p2, p3⟩, -⟩ := id (hW ▸ BP)
 clear hO hnd hE hd IH hn hn' hp hB hB' hP hr hsm hk hH hV
 go_enter Try.func20, Try.ntmps20
 go_wp2
 rw [← hW]
 clear p0 p1 p2 p3 hW
 obtain ⟨V0, hV0⟩ : ∃ X, X = W.drew := ⟨_, rfl⟩
 have hB0 : Below W.heap.size W V0 := by rw [hV0]; exact (Below.refl _ _).drew
 replace HB := Below.tr HB hB0
 replace BP := BP.below hB0
 replace D := D.below hB0
 replace T := T.tr hB0
 have HV0 : Hid (V0 = W.drew) := hV0
 have hle0 : V.heap.size < V0.heap.size := BP.lt
 clear hV0 hB0 HW
 obtain ⟨⟨p0, p1, p2, p3⟩, -⟩ := id BP
 obtain ⟨x0, x1, x2, x3, x4⟩ := D.wb
 refine (fun (key : Hid (∀ X q a1 k1 d1 a2 k2 d2 a3 k3 d3, LoadedN nl nk nv nc V0 X q a1 k1 d1 a2 k2 d2 a3 k3 d3 → (?prop : World → Nat → Option Addr → Nat → Nat → Option Addr → Nat → Nat → Option Addr → Nat → Nat → Prop) X q a1 k1 d1 a2 k2 d2 a3 k3 d3)) => ?reg) ?kont
 case reg =>
  refine wp_region_noPanic ?_
  refine wp_region_held_drew (S := fun X => (X.cell? ⟨V.heap.size, 0, none⟩ = some (.int .i64 block) ∧ X.cell? ⟨V.heap.size, 1, none⟩ = some (.int .i64 d)) ∧ X.cell? ⟨h, 0, none⟩ = some (.slice a n c) ∧ X.cell? ⟨h, 1, none⟩ = some (.slice a' n' c') ∧ X.cell? ⟨h, 2, none⟩ = some (.slice b p f) ∧ X.cell? ⟨h, 3, none⟩ = some (.int .i64 root) ∧ X.cell? ⟨h, 4, none⟩ = some (.int .i64 gen)) (by kernel_rfl) (by rw [← HV0.out]; exact ⟨⟨p0, p1⟩, x0, x1, x2, x3, x4⟩) (fun hHeld => ?_)
  rw [← HV0.out] at hHeld ⊢
  refine take_at (i := 0) (v := ?_) rfl (by kernel_rfl) (by kernel_rfl) (by kernel_rfl) (fun _ _ _ h => h) (Or.inl ⟨by rfl, ?_⟩) (by assumption) ?_
  rotate_left 1
  ·
   (intro w hSw; (try dsimp only at hSw); go_simp; (try with_reducible rfl))
  try go_frame
  refine take_at (i := 1) (v := ?_) rfl (by kernel_rfl) (by kernel_rfl) (by kernel_rfl) (fun _ _ _ h => h) (Or.inl ⟨by rfl, ?_⟩) (by assumption) ?_
  rotate_left 1
  ·
   (intro w hSw; (try dsimp only at hSw); go_simp; (try with_reducible rfl))
  try go_frame
  refine take_at (i := 2) (v := ?_) rfl (by kernel_rfl) (by kernel_rfl) (by kernel_rfl) (fun _ _ _ h => h) (Or.inl ⟨by rfl, ?_⟩) (by assumption) ?_
  rotate_left 1
  ·
   (intro w hSw; (try dsimp only at hSw); go_simp; (try with_reducible rfl))
  try go_frame
  refine take_at (i := 3) (v := ?_) rfl (by kernel_rfl) (by kernel_rfl) (by kernel_rfl) (fun _ _ _ h => h) (Or.inl ⟨by rfl, ?_⟩) (by assumption) ?_
  rotate_left 1
  ·
   (intro w hSw; (try dsimp only at hSw); go_simp; (try with_reducible rfl))
  try go_frame
  refine take_at (i := 4) (v := ?_) rfl (by kernel_rfl) (by kernel_rfl) (by kernel_rfl) (fun _ _ _ h => h) (Or.inl ⟨by rfl, ?_⟩) (by assumption) ?_
  rotate_left 1
  ·
   (intro w hSw; (try dsimp only at hSw); go_simp; (try with_reducible rfl))
  try go_frame
  refine take_at (i := 5) (v := ?_) rfl (by kernel_rfl) (by kernel_rfl) (by kernel_rfl) (fun _ _ _ h => h) (Or.inl ⟨by rfl, ?_⟩) (by assumption) ?_
  rotate_left 1
  ·
   (intro w hSw; (try dsimp only at hSw); go_simp; (try with_reducible rfl))
  try go_frame
  refine take_at (i := 6) (v := ?_) rfl (by kernel_rfl) (by kernel_rfl) (by kernel_rfl) (fun _ _ _ h => h) (Or.inl ⟨by rfl, ?_⟩) (by assumption) ?_
  rotate_left 1
  ·
   (intro w hSw; (try dsimp only at hSw); go_simp; (try with_reducible rfl))
  try go_frame
  refine take_at (i := 7) (v := ?_) rfl (by kernel_rfl) (by kernel_rfl) (by kernel_rfl) (fun _ _ _ h => h) (Or.inl ⟨by rfl, ?_⟩) (by assumption) ?_
  rotate_left 1
  ·
   (intro w hSw; (try dsimp only at hSw); go_simp; (try with_reducible rfl))
  try go_frame
  refine take_at (i := 8) (v := ?_) rfl (by kernel_rfl) (by kernel_rfl) (by kernel_rfl) (fun _ _ _ h => h) (Or.inl ⟨by rfl, ?_⟩) (by assumption) ?_
  rotate_left 1
  ·
   (intro w hSw; (try dsimp only at hSw); go_simp; (try with_reducible rfl))
  try go_frame
  refine wpAnyH_ready (rs := [9, 13]) (by kernel_rfl) (by simp) ?_
  refine cons_at (i := 9) rfl (fun K hK => ?callFirst) (cons_at (i := 13) rfl (fun K hK => ?allocFirst) AllReadyH.nil)
  case callFirst =>
   go_simp
   go_at_call 25
   refine (cV _ HB).mono ?_
   rintro y t ⟨k1, a1, d1, k2, a2, d2, k3, a3, d3, rfl, e1, e2, e3, i1, i2, i3, j1, j2, j3, hb⟩
   have EE : Hid (k1 = nk.length ∧ k2 = nv.length ∧ k3 = nc.length) := ⟨e1, e2, e3⟩
   clear e1 e2 e3
   have hA := (Below.refl t.heap.size t).alloc (Nat.le_refl _) (.cells #[.bool nl, .slice a1 k1 d1, .slice a2 k2 d2, .slice a3 k3 d3] 62)
   have F : LoadedN nl nk nv nc V0 (t.alloc (.cells #[.bool nl, .slice a1 k1 d1, .slice a2 k2 d2, .slice a3 k3 d3] 62)) t.heap.size a1 k1 d1 a2 k2 d2 a3 k3 d3 := ⟨nodeLo_new t _ _ nl rfl hb.size EE.out.1 EE.out.2.1 EE.out.2.2 i1 i2 i3 j1 j2 j3, Below.tr hb hA⟩
   have hs : ∀ U, Below V0.heap.size V0 U → (U.cell? ⟨V.heap.size, 0, none⟩ = some (.int .i64 block) ∧ U.cell? ⟨V.heap.size, 1, none⟩ = some (.int .i64 d)) ∧ U.cell? ⟨h, 0, none⟩ = some (.slice a n c) ∧ U.cell? ⟨h, 1, none⟩ = some (.slice a' n' c') ∧ U.cell? ⟨h, 2, none⟩ = some (.slice b p f) ∧ U.cell? ⟨h, 3, none⟩ = some (.int .i64 root) ∧ U.cell? ⟨h, 4, none⟩ = some (.int .i64 gen) := fun U hU => ⟨⟨cell_below hU p0, cell_below hU p1⟩, cell_below hU x0, cell_below hU x1, cell_below hU x2, cell_below hU x3, cell_below hU x4⟩
   refine hK.out _ _ ?_ (fun hHeld2 => ?_)
   ·
    exact hs _ hb
   clear hK K
   refine take_at (i := 10) (v := ?_) rfl (by kernel_rfl) (by kernel_rfl) (by kernel_rfl) (fun _ _ _ h => h) (Or.inl ⟨by rfl, ?_⟩) (by assumption) ?_
   rotate_left 1
   ·
    (intro w hSw; (try dsimp only at hSw); go_simp; (try with_reducible rfl))
   try go_frame
   refine take_at (i := 11) (v := ?_) rfl (by kernel_rfl) (by kernel_rfl) (by kernel_rfl) (fun _ _ _ h => h) (Or.inl ⟨by rfl, ?_⟩) (by assumption) ?_
   rotate_left 1
   ·
    (intro w hSw; (try dsimp only at hSw); go_simp; (try with_reducible rfl))
   try go_frame
   refine take_at (i := 12) (v := ?_) rfl (by kernel_rfl) (by kernel_rfl) (by kernel_rfl) (fun _ _ _ h => h) (Or.inl ⟨by rfl, ?_⟩) (by assumption) ?_
   rotate_left 1
   ·
    (intro w hSw; (try dsimp only at hSw); go_simp; (try with_reducible rfl))
   try go_frame
   refine wpAnyH_ready (rs := [13]) (by kernel_rfl) (by simp) ?_
   refine cons_at (i := 13) rfl (fun K hK => ?_) AllReadyH.nil
   go_simp
   refine hK.out _ _ ?_ (fun hHeld3 => ?_)
   ·
    exact hs _ (Below.tr hb ((Below.refl _ _).alloc (Nat.le_refl _) _))
   clear hK K
   try go_frame
   refine wpAnyH_ready (rs := [14]) (by kernel_rfl) (by simp) ?_
   refine cons_at (i := 14) rfl (fun K hK => ?_) AllReadyH.nil
   go_simp
   refine hK.out _ _ ?_ (fun hHeld4 => ?_)
   ·
    exact hs _ (Below.tr hb hA)
   clear hK K
   try go_frame
   clear hHeld hHeld2 hHeld3
   refine take_at (i := 15) (v := ?_) rfl (by kernel_rfl) (by kernel_rfl) (by kernel_rfl) (fun _ _ _ h => h) (Or.inl ⟨by rfl, ?_⟩) (by assumption) ?_
   rotate_left 1
   ·
    (intro w hSw; (try dsimp only at hSw); go_simp; (try with_reducible rfl))
   try go_frame
   refine wpAnyH_done (by kernel_rfl) ?_ _
   refine NoPanic.normal ?_
   clear hHeld4 hA hs
   generalize t.alloc (.cells #[.bool nl, .slice a1 k1 d1, .slice a2 k2 d2, .slice a3 k3 d3] 62) = X at F ⊢
   generalize t.heap.size = q at F ⊢
   exact key.out X q a1 k1 d1 a2 k2 d2 a3 k3 d3 F
  case allocFirst =>
   go_simp
   have hA := (Below.refl V0.heap.size V0).alloc (Nat.le_refl _) (.cells #[.bool false, .slice none 0 0, .slice none 0 0, .slice none 0 0] 62)
   have bZ := box4_new V0 (.bool false) (.slice none 0 0) (.slice none 0 0) (.slice none 0 0) 62 rfl
   have hs : ∀ U, Below V0.heap.size V0 U → (U.cell? ⟨V.heap.size, 0, none⟩ = some (.int .i64 block) ∧ U.cell? ⟨V.heap.size, 1, none⟩ = some (.int .i64 d)) ∧ U.cell? ⟨h, 0, none⟩ = some (.slice a n c) ∧ U.cell? ⟨h, 1, none⟩ = some (.slice a' n' c') ∧ U.cell? ⟨h, 2, none⟩ = some (.slice b p f) ∧ U.cell? ⟨h, 3, none⟩ = some (.int .i64 root) ∧ U.cell? ⟨h, 4, none⟩ = some (.int .i64 gen) := fun U hU => ⟨⟨cell_below hU p0, cell_below hU p1⟩, cell_below hU x0, cell_below hU x1, cell_below hU x2, cell_below hU x3, cell_below hU x4⟩
   refine hK.out _ _ ?_ (fun hHeld2 => ?_)
   ·
    exact hs _ hA
   clear hK K
   try go_frame
   refine wpAnyH_ready (rs := [9]) (by kernel_rfl) (by simp) ?_
   refine cons_at (i := 9) rfl (fun K hK => ?_) AllReadyH.nil
   go_simp
   go_at_call 25
   refine (cV _ (Below.tr HB hA)).mono ?_
   rintro y t ⟨k1, a1, d1, k2, a2, d2, k3, a3, d3, rfl, e1, e2, e3, i1, i2, i3, j1, j2, j3, hb⟩
   have EE : Hid (k1 = nk.length ∧ k2 = nv.length ∧ k3 = nc.length) := ⟨e1, e2, e3⟩
   clear e1 e2 e3
   have hts : V0.heap.size + 1 ≤ t.heap.size := by have := hb.size; simp at this; omega
   replace bZ := bZ.below hb
   obtain ⟨⟨z0, z1, z2, z3⟩, y0, y1, y2, y3⟩ := id bZ
   refine hK.out _ _ ?_ (fun hHeld3 => ?_)
   ·
    exact hs _ (Below.tr hA hb)
   clear hK K
   refine take_at (i := 10) (v := ?_) rfl (by kernel_rfl) (by kernel_rfl) (by kernel_rfl) (fun _ _ _ h => h) (Or.inl ⟨by rfl, ?_⟩) (by assumption) ?_
   rotate_left 1
   ·
    (intro w hSw; (try dsimp only at hSw); go_simp; (try with_reducible rfl))
   try go_frame
   refine take_at (i := 11) (v := ?_) rfl (by kernel_rfl) (by kernel_rfl) (by kernel_rfl) (fun _ _ _ h => h) (Or.inl ⟨by rfl, ?_⟩) (by assumption) ?_
   rotate_left 1
   ·
    (intro w hSw; (try dsimp only at hSw); go_simp; (try with_reducible rfl))
   try go_frame
   refine take_at (i := 12) (v := ?_) rfl (by kernel_rfl) (by kernel_rfl) (by kernel_rfl) (fun _ _ _ h => h) (Or.inl ⟨by rfl, ?_⟩) (by assumption) ?_
   rotate_left 1
   ·
    (intro w hSw; (try dsimp only at hSw); go_simp; (try with_reducible rfl))
   try go_frame
   refine wpAnyH_ready (rs := [14]) (by kernel_rfl) (by simp) ?_
   refine cons_at (i := 14) rfl (fun K hK => ?_) AllReadyH.nil
   go_simp
   have T4 := turns_put4 t V0.heap.size (.bool nl) (.slice a1 k1 d1) (.slice a2 k2 d2) (.slice a3 k3 d3)
   have hB4 : Below V0.heap.size V0 ((((t.setCell ⟨V0.heap.size, 0, none⟩ (.bool nl)).setCell ⟨V0.heap.size, 1, none⟩ (.slice a1 k1 d1)).setCell ⟨V0.heap.size, 2, none⟩ (.slice a2 k2 d2)).setCell ⟨V0.heap.size, 3, none⟩ (.slice a3 k3 d3)) := below_put4 (Below.tr hA hb) (Nat.le_refl _) _ _ _ _
   have F : LoadedN nl nk nv nc V0 ((((t.setCell ⟨V0.heap.size, 0, none⟩ (.bool nl)).setCell ⟨V0.heap.size, 1, none⟩ (.slice a1 k1 d1)).setCell ⟨V0.heap.size, 2, none⟩ (.slice a2 k2 d2)).setCell ⟨V0.heap.size, 3, none⟩ (.slice a3 k3 d3)) V0.heap.size a1 k1 d1 a2 k2 d2 a3 k3 d3 :=
    ⟨⟨bZ.put _ _ _ _, EE.out.1, EE.out.2.1, EE.out.2.2, i1.turns T4 (fun x hx e => by have := j1 x hx; simp at this; omega), i2.turns T4 (fun x hx e => by have := j2 x hx; simp at this; omega), i3.turns T4 (fun x hx e => by have := j3 x hx; simp at this; omega), Nat.le_refl _, j1.mono (by simp), j2.mono (by simp), j3.mono (by simp)⟩, hB4⟩
   refine hK.out _ _ ?_ (fun hHeld4 => ?_)
   ·
    exact hs _ hB4
   clear hK K
   try go_frame
   clear hHeld hHeld2 hHeld3
   refine take_at (i := 15) (v := ?_) rfl (by kernel_rfl) (by kernel_rfl) (by kernel_rfl) (fun _ _ _ h => h) (Or.inl ⟨by rfl, ?_⟩) (by assumption) ?_
   rotate_left 1
   ·
    (intro w hSw; (try dsimp only at hSw); go_simp; (try with_reducible rfl))
   try go_frame
   refine wpAnyH_done (by kernel_rfl) ?_ _
   refine NoPanic.normal ?_
   exact key.out _ _ a1 k1 d1 a2 k2 d2 a3 k3 d3 F
 case kont =>
  intro X q a1 k1 d1 a2 k2 d2 a3 k3 d3 F
  obtain ⟨NL, hBX⟩ := F
  replace HB := Below.tr HB hBX
  replace BP := BP.below hBX
  replace D := D.below hBX
  replace T := T.tr hBX
  obtain ⟨⟨n0, n1, n2, n3⟩, -⟩ := id NL.box
  clear p0 p1 p2 p3 x0 x1 x2 x3 x4 cV HV0
  obtain ⟨⟨p0, p1, p2, p3⟩, -⟩ := id BP
  cases O with
  | none =>
   obtain ⟨hO, hnd, rfl, hd⟩ := HO.out
   cases hnd
   have hR : Hid (R = (81, s)) := by
    show _ = _
    rw [HRES.out]
    cases k with
    | zero => rfl
    | succ k =>
     have e1 : (d == 1) = decide (k = 7) := by rw [Bool.eq_iff_iff]; simp; omega
     rw [climbS, ← e1, ← hO]
   clear hO hd HO stands HM HIH
   go_wp2
   go_ret
   rw [hR.out]
   exact ⟨rfl, D, T⟩
  | some nd =>
   obtain ⟨hO, hnd, rfl, hd⟩ := HO.out
   cases hnd
   obtain ⟨hst, h9⟩ := stands.out _ rfl
   replace h9 : nk.length ≤ 9 := h9
   cases k with
   | zero =>
    have hd9 : (8 : Int) < d := by omega
    have hR : Hid (R = (81, s)) := HRES.out
    clear hO hd HO stands HM HIH
    go_wp2
    go_ret
    rw [hR.out]
    exact ⟨rfl, D, T⟩
   | succ k =>
    have hd9 : ¬ (8 : Int) < d := by omega
    have hd8 : 8 - (k : Int) = d := by omega
    have hd10 : d + 1 = 9 - (k : Int) := by omega
    have e1 : (d == 1) = decide (k = 7) := by rw [Bool.eq_iff_iff]; simp; omega
    have hR : R = if withinK nk low high = true ∧ 0 ≤ block ∧ block < s.held.length ∧ atB s.held block.toNat = false then (if nl = true then leafC nk.length d (s.take block) else (kidsT low high nk nc).foldl (fun (r : Int × ClimbS) (x : Int × ByteArray × ByteArray) => if r.1 = 0 then climbS H k r.2 x.1 x.2.1 x.2.2 else r) (0, s.take block)) else (81, s) := by
     rw [HRES.out, climbS, ← e1, ← hO, ← hd8]
    have cI := placeWithin_any block d low high a1 k1 d1 nk X NL.e1 NL.i1
    have hAll : ∀ U, Below X.heap.size X U → ClimbAt U h g N (.slice a n c) (.slice a' n' c') (.slice b p f) (.int .i64 root) (.int .i64 gen) s → Calls Try.prog 16 #[.pointer (some ⟨h, 0, none⟩), .slice (some ⟨U.heap.size, 0, none⟩) 1 1] (U.alloc (.cells #[.int .i64 block] 3)) fun e V' => e = .returned (.bool (holdL s.held [block]).1) ∧ ClimbAt V' h g N (.slice a n c) (.slice a' n' c') (.slice b p f) (.int .i64 root) (.int .i64 gen) ⟨(holdL s.held [block]).2, s.pairs, s.height, s.blocks⟩ ∧ Turns (fun k => k = g) U V' := fun U hU hD =>
     (hold_any (U.alloc (.cells #[.int .i64 block] 3)) h g N _ _ _ _ _ s (some ⟨U.heap.size, 0, none⟩) 1 1 [block] rfl (isI_one U block) (fun _ x hx e => by cases hx; have h1 : U.heap.size = g := e; have h2 : X.heap.size ≤ U.heap.size := hU.size; have h3 := hBX.size; omega) (hD.below ((Below.refl _ _).alloc (Nat.le_refl _) _)) hN).mono fun e V' hh => ⟨hh.1, hh.2.1, (Turns.alloc (Turns.refl _ _) _).trans hh.2.2⟩
    have hh1 : holdL s.held [block] = if 0 ≤ block ∧ block < s.held.length ∧ atB s.held block.toNat = false then (true, s.held.set block.toNat true) else (false, s.held) := by
     rw [holdL]
     split
     ·
      rfl
     ·
      rfl
    rw [hh1] at hAll
    clear hh1 HRES
    cases hw : withinK nk low high with
    | false =>
     rw [hw] at cI
     have HF : Hid (R = (81, s)) := by show _ = _; rw [hR, hw, if_neg (show ¬ (false = true ∧ 0 ≤ block ∧ block < s.held.length ∧ atB s.held block.toNat = false) from fun hh => by cases hh.1)]
     clear hR hO hd HO stands HM HIH hAll hw hd8 hd10 e1 H9
     go_wp2_with (go_at_call 26; refine cI.mono ?_; rintro y t ⟨rfl, hb⟩; replace D := D.below hb; replace T := T.tr hb)
     go_ret
     rw [HF.out]
     exact ⟨rfl, D, T⟩
    | true =>
     rw [hw] at cI
     by_cases hc : 0 ≤ block ∧ block < s.held.length ∧ atB s.held block.toNat = false
     ·
      rw [hw, if_pos ⟨rfl, hc⟩] at hR
      rw [if_pos hc] at hAll
      obtain ⟨hrt, hr9⟩ := room_take HM.out.1 hc.1 hc.2.1 hc.2.2
      have hpr : s.pairs ≤ 1000000 := by have := hrt.1; have := hrt.2; omega
      obtain ⟨m, hm⟩ : ∃ m, m = s.blocks + 1 := ⟨_, rfl⟩
      have Hm : Hid (m = s.blocks + 1) := hm
      have hbl : IntKind.i64.wrap ((s.blocks : Int) + 1) = (m : Int) := by have := hrt.1; have e2 : (s.take block).blocks = s.blocks + 1 := rfl; rw [IntKind.wrap_i64]; omega
      have HRT : Hid (Room (s.take block)) := hrt
      clear hw hc hd8 e1 hrt hr9 hm
      cases nl with
      | true =>
       have HF : Hid (R = leafC nk.length d (s.take block)) := by show _ = _; rw [hR, if_pos rfl]
       clear hR
       have cL : ∀ U, ClimbAt U h g N (.slice a n c) (.slice a' n' c') (.slice b p f) (.int .i64 root) (.int .i64 gen) (s.take block) → Calls Try.prog 27 #[.pointer (some ⟨h, 0, none⟩), .agg #[.bool true, .slice a1 k1 d1, .slice a2 k2 d2, .slice a3 k3 d3], .int .i64 d] U fun e V' => e = .returned (.int .i64 (leafC nk.length d (s.take block)).1) ∧ ClimbAt V' h g N (.slice a n c) (.slice a' n' c') (.slice b p f) (.int .i64 root) (.int .i64 gen) (leafC nk.length d (s.take block)).2 ∧ Turns (fun k => k = h) U V' := fun U hD => by
        have := leaf_any U h g N _ _ _ _ _ (s.take block) true a1 a2 a3 k1 d1 k2 d2 k3 d3 d hD hpr (by rw [NL.e1]; omega)
        rw [NL.e1] at this
        rw [NL.e1]
        exact this
       clear hO hd HO stands HM HIH hd10 H9 h9 hst
       go_wp2_with (first
        | (go_at_call 26; refine cI.mono ?_; rintro y t ⟨rfl, hb⟩; replace HB := Below.tr HB hb; replace D := D.below hb; replace T := T.tr hb; replace BP := BP.below hb; replace NL := NL.stay (Turns.of_below hb); clear n0 n1 n2 n3 p0 p1 p2 p3; obtain ⟨⟨n0, n1, n2, n3⟩, -⟩ := id NL.box; obtain ⟨⟨p0, p1, p2, p3⟩, -⟩ := id BP)
        | (go_at_call 16; refine (hAll _ hb D).mono ?_; rintro y t2 ⟨rfl, D2, T2⟩; have q7 := D2.c7; have qf7 := D2.f7; have D3 := D2.taken Hm.out; have T3 : Turns (fun k => k = h ∨ k = g) t (t2.setCell ⟨h, 7, none⟩ (.int .i64 m)) := (T2.mono fun k hk => .inr hk).setCell (p := ⟨h, 7, none⟩) (.inl rfl) _; replace T := T.trans T3; replace HB := Below.turns HB T3 (fun i hi => (by rcases hi with e | e <;> omega)); replace NL := NL.stay (T3.mono fun k hk => (by rcases hk with e | e <;> omega)); replace BP := BP.turns T3 (fun hk => (by rcases hk with e | e <;> omega)); clear n0 n1 n2 n3 p0 p1 p2 p3 D T3 T2 hb D2; obtain ⟨⟨n0, n1, n2, n3⟩, -⟩ := id NL.box; obtain ⟨⟨p0, p1, p2, p3⟩, -⟩ := id BP)
        | (go_at_call 27; refine (cL _ D3).mono ?_; rintro y t4 ⟨rfl, D4, T4⟩))
       go_ret
       rw [HF.out]
       exact ⟨rfl, D4, T.trans (T4.mono fun k hk => .inl hk)⟩
      | false =>
       rw [if_neg (show ¬ false = true by decide)] at hR
       have HRR : Hid (R = ((kidsT low high nk nc).drop 0).foldl (fun (r : Int × ClimbS) (x : Int × ByteArray × ByteArray) => if r.1 = 0 then climbS H k r.2 x.1 x.2.1 x.2.2 else r) (0, s.take block)) := hR
       have hsh := shape_inner.1 (standsN_iff.1 hst).2.2.2.2.2
       have cT := HIH.out k rfl
       have HE : Hid (k1 = nk.length ∧ k3 = nc.length ∧ nc.length = nk.length + 1 ∧ d + 1 = 9 - (k : Int) ∧ (0 ≤ d ∧ d ≤ 100)) := ⟨NL.e1, NL.e3, hsh.2.2, hd10, (by have := HM.out.2; omega)⟩
       have mk3 : k3 ≤ 9223372036854775807 := by rw [NL.e3]; exact Nat.le_trans NL.i3.1 NL.i3.2.1
       clear hR hO hd HO stands HM HIH hd10 h9 hst hsh
       go_wp2_with (first
        | (go_at_call 26; refine cI.mono ?_; rintro y t ⟨rfl, hb⟩; replace HB := Below.tr HB hb; replace D := D.below hb; replace T := T.tr hb; replace BP := BP.below hb; replace NL := NL.stay (Turns.of_below hb); clear n0 n1 n2 n3 p0 p1 p2 p3; obtain ⟨⟨n0, n1, n2, n3⟩, -⟩ := id NL.box; obtain ⟨⟨p0, p1, p2, p3⟩, -⟩ := id BP)
        | (go_at_call 16; refine (hAll _ hb D).mono ?_; rintro y t2 ⟨rfl, D2, T2⟩; have q7 := D2.c7; have qf7 := D2.f7; have D3 := D2.taken Hm.out; have T3 : Turns (fun k => k = h ∨ k = g) t (t2.setCell ⟨h, 7, none⟩ (.int .i64 m)) := (T2.mono fun k hk => .inr hk).setCell (p := ⟨h, 7, none⟩) (.inl rfl) _; replace T := T.trans T3; replace HB := Below.turns HB T3 (fun i hi => (by rcases hi with e | e <;> omega)); replace NL := NL.stay (T3.mono fun k hk => (by rcases hk with e | e <;> omega)); replace BP := BP.turns T3 (fun hk => (by rcases hk with e | e <;> omega)); clear n0 n1 n2 n3 p0 p1 p2 p3 D T3 T2 hb D2; obtain ⟨⟨n0, n1, n2, n3⟩, -⟩ := id NL.box; obtain ⟨⟨p0, p1, p2, p3⟩, -⟩ := id BP))
       have D := D3
       clear D3 q7 qf7
       generalize t2.setCell ⟨h, 7, none⟩ (.int .i64 m) = X3 at *
       have HN : Hid (NodeLo X3 V0.heap.size q false a1 k1 d1 a2 k2 d2 a3 k3 d3 nk nv nc) := NL
       have HBP : Hid (Box4 X3 V.heap.size (.int .i64 block) (.int .i64 d) (.string low) (.string high)) := BP
       go_loopw [62] (fun v wr => ∃ (j : Nat) (s2 : ClimbS), j ≤ k3 ∧ v = .int .i64 j ∧ (Room s2 ∧ R = ((kidsT low high nk nc).drop j).foldl (fun (r : Int × ClimbS) (x : Int × ByteArray × ByteArray) => if r.1 = 0 then climbS H k r.2 x.1 x.2.1 x.2.2 else r) (0, s2)) ∧ ClimbAt wr h g N (.slice a n c) (.slice a' n' c') (.slice b p f) (.int .i64 root) (.int .i64 gen) s2 ∧ Turns (fun k => k = h ∨ k = g) V wr ∧ Turns (fun k => k = h ∨ k = g) X3 wr ∧ Below w.heap.size w wr) (fun v _ => k3 - (intOf v).toNat)
       case atStart => exact ⟨0, s.take block, by omega, rfl, ⟨HRT.out, HRR.out⟩, D, T, Turns.refl _ _, HB⟩
       case round =>
        clear D T HB n0 n1 n2 n3 p0 p1 p2 p3 NL BP
        obtain ⟨j, s2, hj, rfl, hs2, D, T, LO, HB⟩ := hrel
        have HS2 : Hid (Room s2 ∧ R = ((kidsT low high nk nc).drop j).foldl (fun (r : Int × ClimbS) (x : Int × ByteArray × ByteArray) => if r.1 = 0 then climbS H k r.2 x.1 x.2.1 x.2.2 else r) (0, s2)) := hs2
        clear hs2
        have NL := HN.out.stay (LO.mono fun k hk => by rcases hk with e | e <;> omega)
        have BP := HBP.out.turns LO (fun hk => by rcases hk with e | e <;> omega)
        obtain ⟨⟨n0, n1, n2, n3⟩, -⟩ := id NL.box
        obtain ⟨⟨p0, p1, p2, p3⟩, -⟩ := id BP
        by_cases hlt3 : j < k3
        ·
         have hlt3' : (j : Int) < k3 := by omega
         obtain ⟨kb, hkb⟩ : ∃ x, nc[j]? = some x := ⟨_, List.getElem?_eq_getElem (by have := HE.out; omega)⟩
         obtain ⟨x, hx⟩ : ∃ x, x = kidFrom low nk j := ⟨_, rfl⟩
         obtain ⟨z, hz⟩ : ∃ z, z = kidTo high nk j := ⟨_, rfl⟩
         have cD : Calls Try.prog 28 #[.agg #[.int .i64 block, .int .i64 d, .string low, .string high], .agg #[.bool false, .slice a1 k1 d1, .slice a2 k2 d2, .slice a3 k3 d3], .int .i64 j] wr fun x' w' => x' = .returned (.agg #[.int .i64 kb, .int .i64 (d + 1), .string x, .string z]) ∧ Below wr.heap.size wr w' := by have := placeBelow_any block d low high false a1 a2 a3 k1 d1 k2 d2 k3 d3 nk nv nc j kb wr NL.e1 NL.e3 NL.i1 NL.i3 hkb HE.out.2.2.1 HE.out.2.2.2.2; rw [← hx, ← hz] at this; exact this
         obtain ⟨⟨e, s3⟩, hes⟩ : ∃ r, r = climbS H k s2 kb x z := ⟨_, rfl⟩
         have cT2 : ∀ U, Below w.heap.size w U → ClimbAt U h g N (.slice a n c) (.slice a' n' c') (.slice b p f) (.int .i64 root) (.int .i64 gen) s2 → Calls Try.prog 20 #[.pointer (some ⟨h, 0, none⟩), .agg #[.int .i64 kb, .int .i64 (d + 1), .string x, .string z]] U fun e' V' => e' = .returned (.int .i64 e) ∧ ClimbAt V' h g N (.slice a n c) (.slice a' n' c') (.slice b p f) (.int .i64 root) (.int .i64 gen) s3 ∧ Turns (fun k => k = h ∨ k = g) U V' := fun U hU hD => by have := cT U s2 kb (d + 1) x z hU hD HS2.out.1 HE.out.2.2.2.1; rw [← hes] at this; exact this
         have hs3 : Room s3 := by have := room_climb H9.out k s2 kb x z HS2.out.1; rw [← hes] at this; exact this
         have hdrop : R = ((kidsT low high nk nc).drop (j + 1)).foldl (fun (r : Int × ClimbS) (x : Int × ByteArray × ByteArray) => if r.1 = 0 then climbS H k r.2 x.1 x.2.1 x.2.2 else r) (e, s3) := by
          have hk1 : (kidsT low high nk nc)[j]? = some (kb, x, z) := by rw [hx, hz]; exact kidsT_get hkb
          obtain ⟨hl, hv⟩ := List.getElem?_eq_some_iff.1 hk1
          rw [HS2.out.2, List.drop_eq_getElem_cons hl, hv, List.foldl_cons, if_pos rfl, ← hes]
         have HD2 : Hid (Room s3 ∧ R = ((kidsT low high nk nc).drop (j + 1)).foldl (fun (r : Int × ClimbS) (x : Int × ByteArray × ByteArray) => if r.1 = 0 then climbS H k r.2 x.1 x.2.1 x.2.2 else r) (e, s3)) := ⟨hs3, hdrop⟩
         clear hs3 hdrop hes hx hz hkb cT HS2 NL BP
         by_cases he : e = 0
         ·
          subst he
          go_wp2_with (first
           | (go_at_call 28; refine cD.mono ?_; rintro y t1 ⟨rfl, hb⟩; replace D := D.below hb; replace HB := Below.tr HB hb; replace T := T.tr hb; replace LO := LO.tr hb; clear n0 n1 n2 n3 p0 p1 p2 p3 hb)
           | (go_at_call 20; refine (cT2 _ HB D).mono ?_; rintro y t2 ⟨rfl, D3, T3⟩; replace HB := Below.turns HB T3 (fun i hi => (by rcases hi with e | e <;> omega)); replace D := D3; replace T := T.trans T3; replace LO := LO.trans T3; clear D3 T3))
          go_roundw
          case rel => exact ⟨j + 1, s3, by omega, by go_num, HD2.out, D, T, LO, HB⟩
          case measure => simp [intOf]; omega
         ·
          have he' : (e != 0) = true := by simpa using he
          have hRe : Hid (R = (e, s3)) := by
           show _ = _
           rw [HD2.out.2]
           exact fold_stays _ _ (fun y => if_neg he) _
          go_wp2_with (first
           | (go_at_call 28; refine cD.mono ?_; rintro y t1 ⟨rfl, hb⟩; replace D := D.below hb; replace HB := Below.tr HB hb; replace T := T.tr hb; replace LO := LO.tr hb; clear n0 n1 n2 n3 p0 p1 p2 p3 hb)
           | (go_at_call 20; refine (cT2 _ HB D).mono ?_; rintro y t2 ⟨rfl, D3, T3⟩; replace T := T.trans T3; clear T3))
          go_ret
          rw [hRe.out]
          exact ⟨rfl, D3, T⟩
        ·
         obtain rfl : k3 = j := by omega
         have hj3 : ¬ (k3 : Int) < k3 := by omega
         have hRe : Hid (R = (0, s2)) := by
          show _ = _
          rw [HS2.out.2, List.drop_eq_nil_of_le (by rw [kidsT_length]; have := HE.out; omega)]
          rfl
         go_wp2
         go_ret
         rw [hRe.out]
         exact ⟨rfl, D, T⟩
     ·
      have HF : Hid (R = (81, s)) := by show _ = _; rw [hR, if_neg (fun hh => hc hh.2)]
      rw [if_neg hc] at hAll
      clear hR hO hd HO stands HM HIH hw hc hd8 hd10 e1 H9
      go_wp2_with (first
       | (go_at_call 26; refine cI.mono ?_; rintro y t ⟨rfl, hb⟩; replace HB := Below.tr HB hb; replace D := D.below hb; replace T := T.tr hb; replace BP := BP.below hb; replace NL := NL.stay (Turns.of_below hb); clear n0 n1 n2 n3 p0 p1 p2 p3; obtain ⟨⟨n0, n1, n2, n3⟩, -⟩ := id NL.box; obtain ⟨⟨p0, p1, p2, p3⟩, -⟩ := id BP)
       | (go_at_call 16; refine (hAll _ hb D).mono ?_; rintro y t2 ⟨rfl, D2, T2⟩))
      go_ret
      rw [HF.out]
      exact ⟨rfl, D2, T.trans (T2.mono fun k hk => .inr hk)⟩
end Go.Proofs.Ytpepgpjiddophaa
namespace Go.Proofs.Ytpepgpjiddophaa
namespace Plain
def climbedS (ns : List Bool) (ps : List ByteArray) (root gen : Int) : Int × ClimbS :=
 if root = 0 then (0, ⟨freshL ns.length, 0, 0, 0⟩) else climbS (holdsS ns ps gen) 8 ⟨freshL ns.length, 0, 0, 0⟩ root ⟨#[]⟩ ⟨#[]⟩
theorem howN_fresh (n : Nat) (l : List Bool) : howN (freeB [] l) n ≤ n := howN_le _ _
end Plain
open Go.RowKit Plain
set_option linter.unusedVariables false
theorem climbs_any (w : World) (h g : Nat) (a a' b : Option Addr) (n c n' c' p f : Nat) (bs ns : List Bool) (ps : List ByteArray) (root gen : Int) (hn : n = bs.length) (hn' : n' = ns.length) (hp : p = ps.length) (hr : rightW bs ns ps root gen = true) (hwh : w.heap.size ≤ h) (hwg : w.heap.size ≤ g) (hB : IsB w a c bs) (hB' : IsB w a' c' ns) (hP : IsS w b f ps) (N : Nat) (hN : N ≤ 9223372036854775807) : ∀ (k : Nat), k ≤ 8 →
  ClimbsAt w h g N (.slice a n c) (.slice a' n' c') (.slice b p f) (.int .i64 root) (.int .i64 gen) (holdsS ns ps gen) k
 | 0, hk => climb_step w h g a a' b n c n' c' p f bs ns ps root gen hn hn' hp hr hwh hwg hB hB' hP N hN 0 hk (fun k' e => by cases e)
 | k + 1, hk => climb_step w h g a a' b n c n' c' p f bs ns ps root gen hn hn' hp hr hwh hwg hB hB' hP N hN (k + 1) hk (fun k' e => by cases e; exact climbs_any w h g a a' b n c n' c' p f bs ns ps root gen hn hn' hp hr hwh hwg hB hB' hP N hN k (by omega))
theorem climbAt_new (W : World) (n : Nat) {Z : Array Value} (hZ : Z = (List.replicate n (Value.bool false)).toArray) (hn : n ≤ maxLen) (v0 v1 v2 v3 v4 : Value) (t : TypeId) {g h : Nat} (hg : g = W.heap.size) (hh : h = W.heap.size + 1) : ClimbAt ((W.alloc (.cells Z 4)).alloc (.cells #[v0, v1, v2, v3, v4, .int .i64 0, .int .i64 0, .int .i64 0, .slice (some ⟨g, 0, none⟩) n n] t)) h g n v0 v1 v2 v3 v4 ⟨usedL n 0, 0, 0, 0⟩ := by
 have hr := (RowT.new W n hZ hg hn).below ((Below.refl _ _).alloc (Nat.le_refl _) (.cells #[v0, v1, v2, v3, v4, .int .i64 0, .int .i64 0, .int .i64 0, .slice (some ⟨g, 0, none⟩) n n] t))
 have hs : (W.alloc (.cells Z 4)).heap.size = h := by rw [hh]; simp
 have hne : h ≠ g := by omega
 generalize W.alloc (.cells Z 4) = U at *
 clear hh
 subst hs
 refine ⟨⟨World.cell?_alloc_at _ _ _ _ rfl, World.cell?_alloc_at _ _ _ _ rfl, World.cell?_alloc_at _ _ _ _ rfl, World.cell?_alloc_at _ _ _ _ rfl, World.cell?_alloc_at _ _ _ _ rfl⟩, World.cell?_alloc_at _ _ _ _ rfl, World.cell?_alloc_at _ _ _ _ rfl, World.cell?_alloc_at _ _ _ _ rfl, World.cell?_alloc_at _ _ _ _ rfl, ?_, ?_, ?_, by rw [usedL_zero]; exact hr, usedL_length _ _, hne⟩
 ·
  exact (World.frozen?_alloc_mark U _ _ _ _ 5).trans (by simp)
 ·
  exact (World.frozen?_alloc_mark U _ _ _ _ 6).trans (by simp)
 ·
  exact (World.frozen?_alloc_mark U _ _ _ _ 7).trans (by simp)
set_option maxRecDepth 20000 in
set_option maxHeartbeats 2000000 in
theorem climbed_no (a a' b : Option Addr) (n c n' c' p f : Nat) (bs ns : List Bool) (ps : List ByteArray) (root gen : Int) (w : World) (hn : n = bs.length) (hn' : n' = ns.length) (hp : p = ps.length) (hB : IsB w a c bs) (hB' : IsB w a' c' ns) (hP : IsS w b f ps) (hr : rightW bs ns ps root gen = false) :
  Calls Try.prog 13 #[.agg #[.slice a n c, .slice a' n' c', .slice b p f, .int .i64 root, .int .i64 gen]] w fun x w' => x = .returned (.tuple #[.pointer none, .int .i64 1]) ∧ Below w.heap.size w w' := by
 obtain ⟨W, hW⟩ : ∃ W, W = w.alloc (.cells #[.slice a n c, .slice a' n' c', .slice b p f, .int .i64 root, .int .i64 gen] 27) := ⟨_, rfl⟩
 have HB : Below w.heap.size w W := by rw [hW]; exact (Below.refl _ _).alloc (Nat.le_refl _) _
 have BW : WoodBox W w.heap.size (.slice a n c) (.slice a' n' c') (.slice b p f) (.int .i64 root) (.int .i64 gen) := by rw [hW]; exact woodBox_new _ _ _ _ _ _ _ rfl
 have cR := lookRight_any a a' b n c n' c' p f bs ns ps root gen W hn hn' hp (hB.below HB) (hB'.below HB) (hP.below HB)
 rw [hr] at cR
 obtain ⟨x0, x1, x2, x3, x4⟩ := id (hW ▸ BW)
 clear hn hn' hp hB hB' hP hr
 go_enter Try.func13, Try.ntmps13
 go_wp2_with (
  (go_at_call 19; rw [← hW]; refine cR.mono ?_; rintro y w1 ⟨rfl, hb⟩; replace HB := Below.tr HB hb; replace BW := BW.below hb; clear x0 x1 x2 x3 x4; obtain ⟨x0, x1, x2, x3, x4⟩ := id BW; clear hb))
 refine bodyPost_ret (v := .tuple #[.pointer none, .int .i64 1]) (by simp [results, Try.results13, go_sem]) rfl ?_
 exact ⟨rfl, HB⟩
set_option maxRecDepth 20000 in
set_option maxHeartbeats 4000000 in
theorem climbed_yes (a a' b : Option Addr) (n c n' c' p f : Nat) (bs ns : List Bool) (ps : List ByteArray) (root gen : Int) (w : World) (hn : n = bs.length) (hn' : n' = ns.length) (hp : p = ps.length) (hB : IsB w a c bs) (hB' : IsB w a' c' ns) (hP : IsS w b f ps) (hr : rightW bs ns ps root gen = true) :
  Calls Try.prog 13 #[.agg #[.slice a n c, .slice a' n' c', .slice b p f, .int .i64 root, .int .i64 gen]] w fun x w' => ∃ h g, x = .returned (.tuple #[.pointer (some ⟨h, 0, none⟩), .int .i64 (climbedS ns ps root gen).1]) ∧ ClimbAt w' h g n' (.slice a n c) (.slice a' n' c') (.slice b p f) (.int .i64 root) (.int .i64 gen) (climbedS ns ps root gen).2 ∧ w.heap.size ≤ h ∧ w.heap.size ≤ g ∧ Below w.heap.size w w' := by
 obtain ⟨W, hW⟩ : ∃ W, W = w.alloc (.cells #[.slice a n c, .slice a' n' c', .slice b p f, .int .i64 root, .int .i64 gen] 27) := ⟨_, rfl⟩
 have HB : Below w.heap.size w W := by rw [hW]; exact (Below.refl _ _).alloc (Nat.le_refl _) _
 have BW : WoodBox W w.heap.size (.slice a n c) (.slice a' n' c') (.slice b p f) (.int .i64 root) (.int .i64 gen) := by rw [hW]; exact woodBox_new _ _ _ _ _ _ _ rfl
 have cR := lookRight_any a a' b n c n' c' p f bs ns ps root gen W hn hn' hp (hB.below HB) (hB'.below HB) (hP.below HB)
 rw [hr] at cR
 have hA : rightA bs ns = true := by unfold rightW at hr; simp only [Bool.and_eq_true] at hr; exact hr.1.1.1.1.1
 obtain ⟨-, h24, h2048, -⟩ := (rightA_iff bs ns).1 hA
 have mn : n' ≤ 2048 := by omega
 have mn24 : 24 ≤ n' := by omega
 have cT : ∀ h g, w.heap.size ≤ h → w.heap.size ≤ g → ClimbsAt w h g n' (.slice a n c) (.slice a' n' c') (.slice b p f) (.int .i64 root) (.int .i64 gen) (holdsS ns ps gen) 8 := fun h g h1 h2 => climbs_any w h g a a' b n c n' c' p f bs ns ps root gen hn hn' hp hr h1 h2 hB hB' hP n' (by omega) 8 (Nat.le_refl _)
 obtain ⟨R, hR⟩ : ∃ R, R = climbedS ns ps root gen := ⟨_, rfl⟩
 rw [← hR]
 unfold climbedS at hR
 rw [← hn'] at hR
 obtain ⟨H, hH⟩ : ∃ H, H = holdsS ns ps gen := ⟨_, rfl⟩
 rw [← hH] at hR cT
 have HR : Hid (R = if root = 0 then (0, ⟨freshL n', 0, 0, 0⟩) else climbS H 8 ⟨freshL n', 0, 0, 0⟩ root ⟨#[]⟩ ⟨#[]⟩) := hR
 obtain ⟨x0, x1, x2, x3, x4⟩ := id (hW ▸ BW)
 obtain ⟨Z, hmk, hZ⟩ : ∃ Z : Array Value, (∀ W : World, (Instr.makeSlice 22 (.int .i64 n') (.int .i64 n')).run Try.prog W = .ok (.slice (some ⟨W.heap.size, 0, none⟩) n' n') (W.alloc (.cells Z 4))) ∧ Hid (Z = (List.replicate n' (Value.bool false)).toArray) :=
  ⟨madeCells #[.bool false] n', fun W => run_make_row' (P := Try.prog) 22 4 (.bool false) 1 Try.underlying22 Try.info4 rfl .i64 .i64 n' (by omega) (by omega) W, made_one _ n'⟩
 clear hn hn' hp hB hB' hP hr hA h24 h2048 hR hH
 go_enter Try.func13, Try.ntmps13
 go_wp2_with (
  (go_at_call 19; rw [← hW]; refine cR.mono ?_; rintro y w1 ⟨rfl, hb⟩; replace HB := Below.tr HB hb; replace BW := BW.below hb; clear x0 x1 x2 x3 x4; obtain ⟨x0, x1, x2, x3, x4⟩ := id BW; clear hb))
 have y0 := cell_alloc x0 (.cells Z 4)
 have y1 := cell_alloc x1 (.cells Z 4)
 have y2 := cell_alloc x2 (.cells Z 4)
 have y3 := cell_alloc x3 (.cells Z 4)
 have y4 := cell_alloc x4 (.cells Z 4)
 go_region
 clear y0 y1 y2 y3 y4
 have hw1 := HB.size
 have D := climbAt_new w1 n' hZ.out (by unfold maxLen; omega) (.slice a n c) (.slice a' n' c') (.slice b p f) (.int .i64 root) (.int .i64 gen) 46 (g := w1.heap.size) (h := w1.heap.size + 1) rfl rfl
 replace D := D.below (Below.refl _ _).drew
 have HU : Below w1.heap.size w1 ((w1.alloc (.cells Z 4)).alloc (.cells #[.slice a n c, .slice a' n' c', .slice b p f, .int .i64 root, .int .i64 gen, .int .i64 0, .int .i64 0, .int .i64 0, .slice (some ⟨w1.heap.size, 0, none⟩) n' n'] 46)).drew := (((Below.refl _ _).alloc (Nat.le_refl _) _).alloc (by simp only [World.size_alloc]; omega) _).drew
 generalize ((w1.alloc (.cells Z 4)).alloc (.cells #[.slice a n c, .slice a' n' c', .slice b p f, .int .i64 root, .int .i64 gen, .int .i64 0, .int .i64 0, .int .i64 0, .slice (some ⟨w1.heap.size, 0, none⟩) n' n'] 46)).drew = U at D HU ⊢
 replace HB := Below.tr HB HU
 have hh : w.heap.size ≤ w1.heap.size + 1 := by omega
 generalize hgh : w1.heap.size + 1 = h at *
 generalize w1.heap.size = g at *
 clear hgh HU x0 x1 x2 x3 x4 BW hmk hZ
 go_wp2
 go_loopw [17] (fun v wr => ∃ j : Nat, j ≤ 10 ∧ v = .int .i64 j ∧ ClimbAt wr h g n' (.slice a n c) (.slice a' n' c') (.slice b p f) (.int .i64 root) (.int .i64 gen) ⟨usedL n' j, 0, 0, 0⟩ ∧ Below w.heap.size w wr) (fun v _ => 10 - (intOf v).toNat)
 case atStart => exact ⟨0, by omega, rfl, D, HB⟩
 case round =>
  clear D HB
  obtain ⟨j, hj, rfl, D, HB⟩ := hrel
  have x8 := D.c8
  by_cases hlt : j < 10
  ·
   have hlt' : (j : Int) < 10 := by omega
   have hjn : (j : Int) < n' := by omega
   obtain ⟨hcy, hfy⟩ := D.row.cell (usedL_get j (show j < n' by omega))
   have D2 := D.hold j true
   have D3 : ClimbAt (wr.setCell ⟨g, j, none⟩ (.bool true)) h g n' (.slice a n c) (.slice a' n' c') (.slice b p f) (.int .i64 root) (.int .i64 gen) ⟨usedL n' (j + 1), 0, 0, 0⟩ := by rw [← usedL_set (show j < n' by omega)]; exact D2
   clear D2
   go_wp2
   go_roundw
   case rel => exact ⟨j + 1, by omega, by go_num, D3, HB.setCell (p := ⟨g, j, none⟩) hw1 _⟩
   case measure => simp [intOf]; omega
  ·
   obtain rfl : j = 10 := by omega
   have D' : ClimbAt wr h g n' (.slice a n c) (.slice a' n' c') (.slice b p f) (.int .i64 root) (.int .i64 gen) ⟨freshL n', 0, 0, 0⟩ := D
   have x3 := D'.wb.2.2.2.1
   clear D x8
   by_cases hroot : root = 0
   ·
    have hroot' : (root == 0) = true := by simpa using hroot
    have HF : Hid (R = (0, ⟨freshL n', 0, 0, 0⟩)) := HR.out.trans (if_pos hroot)
    clear hroot
    go_wp2
    refine bodyPost_ret (v := .tuple #[.pointer (some ⟨h, 0, none⟩), .int .i64 0]) (by simp [results, Try.results13, go_sem]) rfl ?_
    rw [HF.out]
    exact ⟨h, g, rfl, D', hh, hw1, HB⟩
   ·
    have hroot' : (root == 0) = false := by simpa using hroot
    have HF : Hid (R = climbS H 8 ⟨freshL n', 0, 0, 0⟩ root ⟨#[]⟩ ⟨#[]⟩) := HR.out.trans (if_neg hroot)
    have cC := cT h g hh hw1 wr ⟨freshL n', 0, 0, 0⟩ root 1 ⟨#[]⟩ ⟨#[]⟩ HB D' ⟨by refine Nat.le_trans (Nat.add_le_add_left (howN_fresh _ _) _) ?_; show 0 + (freshL n').length ≤ 10000; rw [freshL_length]; omega, Nat.zero_le _⟩ (by decide)
    rw [← HF.out] at cC
    clear hroot HF HR
    go_wp2_with (go_at_call 20; refine cC.mono ?_; rintro y w2 ⟨rfl, D2, T2⟩)
    refine bodyPost_ret (v := .tuple #[.pointer (some ⟨h, 0, none⟩), .int .i64 R.1]) (by simp [results, Try.results13, go_sem]) rfl ?_
    exact ⟨h, g, rfl, D2, hh, hw1, Below.turns HB T2 (fun i hi => by rcases hi with e | e <;> omega)⟩
theorem drewM_below (w : World) (n : Nat) {k : Nat} : Below k w (w.drewN n) := by
 induction n generalizing w with
 | zero => exact Below.refl _ _
 | succ n ih => exact (ih w).drew
set_option maxRecDepth 20000 in
set_option maxHeartbeats 2000000 in
theorem equalB_any (a a' : Option Addr) (c c' n n' : Nat) (xs ys : List Bool) (w : World) (hn : n = xs.length) (hn' : n' = ys.length) (h : IsB w a c xs) (h' : IsB w a' c' ys) :
  Calls Try.prog 17 #[.slice a n c, .slice a' n' c'] w fun e w' => e = .returned (.bool (decide (xs = ys))) ∧ Below w.heap.size w w' := by
 have mn : n ≤ 9223372036854775807 := by rw [hn]; exact Nat.le_trans h.1 h.2.1
 have mn' : n' ≤ 9223372036854775807 := by rw [hn']; exact Nat.le_trans h'.1 h'.2.1
 have HB : Below w.heap.size w w := Below.refl _ _
 obtain ⟨r, hr⟩ : ∃ r, r = decide (xs = ys) := ⟨_, rfl⟩
 rw [← hr]
 have HR : Hid (r = decide (xs = ys)) := hr
 have E : Hid (n = xs.length ∧ n' = ys.length) := ⟨hn, hn'⟩
 have I : Hid (IsB w a c xs ∧ IsB w a' c' ys) := ⟨h, h'⟩
 clear hr hn hn' h h'
 by_cases h1 : n = n'
 ·
  have h1' : ((n : Int) != n') = false := by simp [h1]
  have E1 : Hid (n = n') := h1
  clear h1
  go_enter Try.func17, Try.ntmps17
  go_wp2
  go_loopw [13] (fun v wr => ∃ j : Nat, j ≤ n ∧ v = .int .i64 j ∧ (∀ i, i < j → xs[i]? = ys[i]?) ∧ Below w.heap.size w wr) (fun v _ => n - (intOf v).toNat)
  case atStart => exact ⟨0, by omega, rfl, fun i hi => by omega, HB⟩
  case round =>
   clear HB
   obtain ⟨j, hj, rfl, hA, HB⟩ := hrel
   have HA : Hid (∀ i, i < j → xs[i]? = ys[i]?) := hA
   clear hA
   by_cases hlt : j < n
   ·
    have hlt' : (j : Int) < n := by omega
    have hlt2 : (j : Int) < n' := by have := E1.out; omega
    obtain ⟨x, hx⟩ : ∃ x, Hid (xs[j]? = some x) := get_some (by have := E.out; omega)
    obtain ⟨y, hy⟩ : ∃ x, Hid (ys[j]? = some x) := get_some (by have := E.out; have := E1.out; omega)
    obtain ⟨b1, o1, rfl, -, hc1⟩ := I.out.1.2.2 j x hx.out
    obtain ⟨b2, o2, rfl, -, hc2⟩ := I.out.2.2.2 j y hy.out
    have z1 := cell_below HB hc1
    have z2 := cell_below HB hc2
    clear hc1 hc2
    by_cases he : x = y
    ·
     have he' : (x == y) = true := by simpa using he
     have HN : Hid (∀ i, i < j + 1 → xs[i]? = ys[i]?) := fun i hi => by
      by_cases e : i = j
      ·
       rw [e, hx.out, hy.out, he]
      ·
       exact HA.out i (by omega)
     clear he
     go_wp2
     go_quiet (fail)
     have HBq : Below wr.heap.size wr (wr.drewN nq) := drewM_below wr nq
     generalize wr.drewN nq = w2 at HBq ⊢
     go_wp2
     go_roundw
     case rel => exact ⟨j + 1, by omega, by go_num, HN.out, Below.tr HB HBq⟩
     case measure => simp [intOf]; omega
    ·
     have he' : (x == y) = false := by simpa using he
     have hf : r = false := by rw [HR.out]; refine decide_eq_false fun e => he ?_; have := hx.out; rw [e, hy.out] at this; cases this; rfl
     subst hf
     clear he
     go_wp2
     go_quiet (fail)
     have HBq : Below wr.heap.size wr (wr.drewN nq) := drewM_below wr nq
     generalize wr.drewN nq = w2 at HBq ⊢
     go_wp2
     go_ret
     exact ⟨rfl, Below.tr HB HBq⟩
   ·
    obtain rfl : n = j := by omega
    have hj0 : ¬ (n : Int) < n := by omega
    have hf : r = true := by
     rw [HR.out]
     refine decide_eq_true (List.ext_getElem? fun i => ?_)
     by_cases hi : i < n
     ·
      exact HA.out i hi
     ·
      rw [List.getElem?_eq_none (by have := E.out; omega), List.getElem?_eq_none (by have := E.out; have := E1.out; omega)]
    subst hf
    go_wp2
    go_ret
    exact ⟨rfl, HB⟩
 ·
  have h1' : ((n : Int) != n') = true := by simp; omega
  have hf : r = false := by rw [HR.out]; exact decide_eq_false (fun e => h1 (by rw [E.out.1, E.out.2, e]))
  subst hf
  clear h1
  go_enter Try.func17, Try.ntmps17
  go_wp2
  go_ret
  exact ⟨rfl, HB⟩
end Go.Proofs.Ytpepgpjiddophaa
namespace Go.Proofs.Ytpepgpjiddophaa
open Go.RowKit Plain
set_option linter.unusedVariables false
theorem climb_ing {ns : List Bool} {ps : List ByteArray} {gen : Int} : Holding (holdsS ns ps gen) := by
 intro b r nd h
 obtain ⟨l, ks, vs, cs⟩ := nd
 have hs : standsN l ks vs cs = true := (rightN_iff.1 (holds_right h)).1
 obtain ⟨_, hk, hr, _, _, _⟩ := standsN_iff.1 hs
 obtain ⟨_, _, h3, h4⟩ := holds_len b r (l, ks, vs, cs) h
 exact ⟨hr, hk, h3, h4⟩
theorem climb_keyed {ns : List Bool} {ps : List ByteArray} {gen : Int} : Keyed (holdsS ns ps gen) := by
 intro b r nd h hl e
 obtain ⟨l, ks, vs, cs⟩ := nd
 have hs : standsN l ks vs cs = true := (rightN_iff.1 (holds_right h)).1
 obtain ⟨_, _, _, _, _, hsh⟩ := standsN_iff.1 hs
 have e' : ks = [] := e
 have hl' : l = false := hl
 subst hl' e'
 have := (shape_inner.1 hsh).2.1
 simp at this
theorem holds_in {ns : List Bool} {ps : List ByteArray} {gen : Int} : ∀ b r (nd : NodeS), holdsS ns ps gen b r = some nd → 10 ≤ b ∧ b < ns.length := by
 intro b r nd h
 unfold holdsS at h
 split at h
 ·
  rename_i hh
  exact ⟨hh.1, hh.2.1⟩
 ·
  cases h
theorem fresh_held (n : Nat) : HeldBy n (freshL n) [] := ⟨freshL_length n, fun i hi => by rw [freshL_at hi]; simp⟩
theorem climbed_tree (ns : List Bool) (ps : List ByteArray) (root gen : Int) :
  ((treeS ns ps root gen).bad = false → (climbedS ns ps root gen).1 = 0 ∧ Agree ns.length (climbedS ns ps root gen).2 (treeS ns ps root gen)) ∧ ((treeS ns ps root gen).bad = true → (climbedS ns ps root gen).1 = 81) := by
 have h0 : Agree ns.length ⟨freshL ns.length, 0, 0, 0⟩ TreeS.none := ⟨fresh_held _, rfl, rfl, rfl⟩
 unfold treeS climbedS
 by_cases hr : root = 0
 ·
  rw [if_pos hr, if_pos hr]
  exact ⟨fun _ => ⟨rfl, h0⟩, fun h => by cases h⟩
 ·
  rw [if_neg hr, if_neg hr]
  exact climb_below climb_ing climb_keyed holds_in 8 _ _ _ _ _ h0 rfl
theorem rightW_now {bs ns : List Bool} {ps : List ByteArray} {root gen : Int} (h : rightW bs ns ps root gen = true) : rightA bs ns = true := by
 unfold rightW at h
 simp only [Bool.and_eq_true] at h
 exact h.1.1.1.1.1
end Go.Proofs.Ytpepgpjiddophaa
namespace Go.Proofs.Ytpepgpjiddophaa
namespace Plain
theorem check_err {right : Bool} {ns : List Bool} {t : TreeS} {more : List Int} {e : Int} (h : checkE right ns t more = e) (he : e ≠ 0) : checkP right ns t more = 0 ∧ checkH right ns t more = 0 ∧ checkB right ns t more = 0 := by
 unfold checkP checkH checkB
 rw [h, if_neg he, if_neg he, if_neg he]
 exact ⟨rfl, rfl, rfl⟩
theorem check_right {ns : List Bool} {t : TreeS} {more : List Int} : checkE false ns t more = 1 := by unfold checkE; rw [if_neg (by decide)]
theorem check_bad {ns : List Bool} {t : TreeS} {more : List Int} (h : t.bad = true) : checkE true ns t more = 81 := by unfold checkE; rw [if_pos rfl, if_neg (fun hh => by rw [h] at hh; cases hh.1)]
theorem check_not {ns : List Bool} {t : TreeS} {more : List Int} (h : checkOK ns t more = false) : checkE true ns t more = 81 := by unfold checkE; rw [if_pos rfl, if_neg (fun hh => by rw [h] at hh; cases hh.2)]
theorem check_ok {ns : List Bool} {t : TreeS} {more : List Int} (h0 : t.bad = false) (h : checkOK ns t more = true) : checkE true ns t more = 0 := by unfold checkE; rw [if_pos rfl, if_pos ⟨h0, h⟩]
end Plain
open Go.RowKit Plain
set_option linter.unusedVariables false
set_option maxRecDepth 20000 in
set_option maxHeartbeats 4000000 in
theorem check_any (a a' b : Option Addr) (n c n' c' p f : Nat) (bs ns : List Bool) (ps : List ByteArray) (root gen : Int) (am : Option Addr) (cm nm : Nat) (ms : List Int) (w : World) (hn : n = bs.length) (hn' : n' = ns.length) (hp : p = ps.length) (hm : nm = ms.length) (hB : IsB w a c bs) (hB' : IsB w a' c' ns) (hP : IsS w b f ps) (hI : IsI w am cm ms) :
  Calls Try.prog 9 #[.agg #[.slice a n c, .slice a' n' c', .slice b p f, .int .i64 root, .int .i64 gen], .slice am nm cm] w fun x w' => x = .returned (.tuple #[.agg #[.int .i64 (checkP (rightW bs ns ps root gen) ns (treeS ns ps root gen) ms), .int .i64 (checkH (rightW bs ns ps root gen) ns (treeS ns ps root gen) ms), .int .i64 (checkB (rightW bs ns ps root gen) ns (treeS ns ps root gen) ms)], .int .i64 (checkE (rightW bs ns ps root gen) ns (treeS ns ps root gen) ms)]) ∧ Below w.heap.size w w' := by
 obtain ⟨W, hW⟩ : ∃ W, W = (w.alloc (.cells #[.slice a n c, .slice a' n' c', .slice b p f, .int .i64 root, .int .i64 gen] 27)).alloc (.cells #[.int .i64 0, .int .i64 0, .int .i64 0] 35) := ⟨_, rfl⟩
 have HB : Below w.heap.size w W := by rw [hW]; exact ((Below.refl _ _).alloc (Nat.le_refl _) _).alloc (by simp) _
 have BW : WoodBox W w.heap.size (.slice a n c) (.slice a' n' c') (.slice b p f) (.int .i64 root) (.int .i64 gen) := by rw [hW]; exact (woodBox_new _ _ _ _ _ _ _ rfl).below ((Below.refl _ _).alloc (Nat.le_refl _) _)
 have BR : Box3 W (w.heap.size + 1) (.int .i64 0) (.int .i64 0) (.int .i64 0) := by rw [hW]; have := box3_new (w.alloc (.cells #[.slice a n c, .slice a' n' c', .slice b p f, .int .i64 root, .int .i64 gen] 27)) (.int .i64 0) (.int .i64 0) (.int .i64 0) 35; simpa using this
 have hWs : W.heap.size = w.heap.size + 2 := by rw [hW]; simp
 obtain ⟨t, ht⟩ : ∃ t, t = treeS ns ps root gen := ⟨_, rfl⟩
 obtain ⟨x0, x1, x2, x3, x4⟩ := id (hW ▸ BW)
 obtain ⟨⟨r0, r1, r2⟩, f0, f1, f2⟩ := id (hW ▸ BR)
 rw [← ht]
 cases hr : rightW bs ns ps root gen with
 | false =>
  have cC := climbed_no a a' b n c n' c' p f bs ns ps root gen W hn hn' hp (hB.below HB) (hB'.below HB) (hP.below HB) hr
  obtain ⟨rE, hE⟩ : ∃ x, x = checkE false ns t ms := ⟨_, rfl⟩
  obtain ⟨rP, hP'⟩ : ∃ x, x = checkP false ns t ms := ⟨_, rfl⟩
  obtain ⟨rH, hH⟩ : ∃ x, x = checkH false ns t ms := ⟨_, rfl⟩
  obtain ⟨rB, hBB⟩ : ∃ x, x = checkB false ns t ms := ⟨_, rfl⟩
  rw [← hE, ← hP', ← hH, ← hBB]
  have hz := check_err (check_right (ns := ns) (t := t) (more := ms)) (by decide)
  have HF : Hid (rP = 0 ∧ rH = 0 ∧ rB = 0 ∧ rE = 1) := ⟨hP'.trans hz.1, hH.trans hz.2.1, hBB.trans hz.2.2, hE.trans check_right⟩
  clear hn hn' hp hB hB' hP hm hI hr ht hE hP' hH hBB hz
  go_enter Try.func9, Try.ntmps9
  go_wp2_with (go_at_call 13; rw [← hW]; refine cC.mono ?_; rintro y w1 ⟨rfl, hb⟩; replace HB := Below.tr HB hb; replace BR := BR.below hb; clear x0 x1 x2 x3 x4 r0 r1 r2 f0 f1 f2; obtain ⟨⟨r0, r1, r2⟩, f0, f1, f2⟩ := id BR)
  obtain ⟨z0, z1, z2⟩ := set3_cells (v0 := .int .i64 0) (v1 := .int .i64 0) (v2 := .int .i64 0) r0 r1 r2
  refine bodyPost_ret (v := .tuple #[.agg #[.int .i64 0, .int .i64 0, .int .i64 0], .int .i64 1]) (by simp [results, Try.results9, go_sem, z0, z1, z2]) rfl ?_
  rw [HF.out.1, HF.out.2.1, HF.out.2.2.1, HF.out.2.2.2]
  exact ⟨rfl, below_set3 HB (by omega)⟩
 | true =>
  have cC := climbed_yes a a' b n c n' c' p f bs ns ps root gen W hn hn' hp (hB.below HB) (hB'.below HB) (hP.below HB) hr
  obtain ⟨t1, t2⟩ := climbed_tree ns ps root gen
  rw [← ht] at t1 t2
  obtain ⟨-, h24, h2048, -⟩ := (rightA_iff bs ns).1 (rightW_now hr)
  have hck := fun (held : List Bool) (hh : HeldBy ns.length held t.blocks) => check_held (ns := ns) (t := t) (more := ms) (by omega) hh
  obtain ⟨⟨e, s⟩, hes⟩ : ∃ x, x = climbedS ns ps root gen := ⟨_, rfl⟩
  rw [← hes] at cC t1 t2
  obtain ⟨rE, hE⟩ : ∃ x, x = checkE true ns t ms := ⟨_, rfl⟩
  obtain ⟨rP, hP'⟩ : ∃ x, x = checkP true ns t ms := ⟨_, rfl⟩
  obtain ⟨rH, hH⟩ : ∃ x, x = checkH true ns t ms := ⟨_, rfl⟩
  obtain ⟨rB, hBB⟩ : ∃ x, x = checkB true ns t ms := ⟨_, rfl⟩
  rw [← hE, ← hP', ← hH, ← hBB]
  have hbad : checkE true ns t ms = 81 → Hid (rP = 0 ∧ rH = 0 ∧ rB = 0 ∧ rE = 81) := fun h81 => by
   have hz := check_err h81 (by decide)
   exact ⟨hP'.trans hz.1, hH.trans hz.2.1, hBB.trans hz.2.2, hE.trans h81⟩
  have mn : n' ≤ 2048 := by omega
  cases hb : t.bad with
  | true =>
   have HF := hbad (check_bad hb)
   obtain rfl : e = 81 := t2 hb
   clear hn hn' hp hB hB' hP hm hI hr ht hE hP' hH hBB t1 t2 hck hbad hes h24 h2048 hb
   go_enter Try.func9, Try.ntmps9
   go_wp2_with (
    (go_at_call 13; rw [← hW]; refine cC.mono ?_; rintro y w1 ⟨h, g, rfl, D, hh, hg, hb⟩; replace HB := Below.tr HB hb; replace BR := BR.below hb; replace BW := BW.below hb; clear x0 x1 x2 x3 x4 r0 r1 r2 f0 f1 f2; obtain ⟨x0, x1, x2, x3, x4⟩ := id BW; obtain ⟨⟨r0, r1, r2⟩, f0, f1, f2⟩ := id BR))
   obtain ⟨z0, z1, z2⟩ := set3_cells (v0 := .int .i64 0) (v1 := .int .i64 0) (v2 := .int .i64 0) r0 r1 r2
   refine bodyPost_ret (v := .tuple #[.agg #[.int .i64 0, .int .i64 0, .int .i64 0], .int .i64 81]) (by simp [results, Try.results9, go_sem, z0, z1, z2]) rfl ?_
   rw [HF.out.1, HF.out.2.1, HF.out.2.2.1, HF.out.2.2.2]
   exact ⟨rfl, below_set3 HB (by omega)⟩
  | false =>
   obtain ⟨e0, hA⟩ := t1 hb
   replace e0 : e = 0 := e0
   subst e0
   replace hA : Agree ns.length s t := hA
   have hck2 := hck _ hA.held
   have cH : ∀ (V : World) (h g : Nat), Below w.heap.size w V → w.heap.size ≤ g → ClimbAt V h g n' (.slice a n c) (.slice a' n' c') (.slice b p f) (.int .i64 root) (.int .i64 gen) s → Calls Try.prog 16 #[.pointer (some ⟨h, 0, none⟩), .slice am nm cm] V fun e V' => e = .returned (.bool (holdL s.held ms).1) ∧ ClimbAt V' h g n' (.slice a n c) (.slice a' n' c') (.slice b p f) (.int .i64 root) (.int .i64 gen) ⟨(holdL s.held ms).2, s.pairs, s.height, s.blocks⟩ ∧ Turns (fun k => k = g) V V' := fun V h g hV hg hD =>
    hold_any V h g n' _ _ _ _ _ s am cm nm ms hm (hI.below hV) (fun hne x hx e => by
     cases ms with
     | nil => exact hne rfl
     | cons m0 ms0 =>
      obtain ⟨b0, o0, ha0, hlt0, _⟩ := hI.2.2 0 m0 rfl
      rw [ha0] at hx
      cases hx
      have e' : b0 = g := e
      omega) hD (by omega)
   have cQ : ∀ (V : World) (h g : Nat) (l : List Bool), Below w.heap.size w V → ClimbAt V h g n' (.slice a n c) (.slice a' n' c') (.slice b p f) (.int .i64 root) (.int .i64 gen) ⟨l, s.pairs, s.height, s.blocks⟩ → Calls Try.prog 17 #[.slice (some ⟨g, 0, none⟩) n' n', .slice a' n' c'] V fun e V' => e = .returned (.bool (decide (l = ns))) ∧ Below V.heap.size V V' := fun V h g l hV hD =>
    equalB_any (some ⟨g, 0, none⟩) a' n' c' n' n' l ns V hD.len.symm hn' hD.row.isB (hB'.below hV)
   obtain ⟨⟨q, l2⟩, hql⟩ : ∃ x, x = holdL s.held ms := ⟨_, rfl⟩
   rw [← hql] at hck2 cH
   have hpos : checkOK ns t ms = true → Hid (rP = (s.pairs : Int) ∧ rH = s.height ∧ rB = (s.blocks : Int) ∧ rE = 0) := fun hok => by
    have h0 := check_ok hb hok
    refine ⟨hP'.trans ?_, hH.trans ?_, hBB.trans ?_, hE.trans h0⟩
    ·
     unfold checkP; rw [h0, if_pos rfl, hA.pairs]
    ·
     unfold checkH; rw [h0, if_pos rfl, hA.height]
    ·
     unfold checkB; rw [h0, if_pos rfl, hA.blocks]
   replace hck2 : checkOK ns t ms = (q && decide (l2 = ns)) := hck2
   have hcond : checkOK ns t ms = false → Hid (rP = 0 ∧ rH = 0 ∧ rB = 0 ∧ rE = 81) := fun hno => hbad (check_not hno)
   clear hn hn' hp hB hB' hP hm hI hr ht hE hP' hH hBB t1 t2 hck hbad hes h24 h2048 hb hA hql
   cases q with
   | false =>
    have HF := hcond (by rw [hck2]; rfl)
    clear hck2 hpos hcond cQ
    go_enter Try.func9, Try.ntmps9
    go_wp2_with (
     (go_at_call 13; rw [← hW]; refine cC.mono ?_; rintro y w1 ⟨h, g, rfl, D, hh, hg, hb⟩; replace HB := Below.tr HB hb; replace BR := BR.below hb; replace BW := BW.below hb; clear x0 x1 x2 x3 x4 r0 r1 r2 f0 f1 f2; obtain ⟨x0, x1, x2, x3, x4⟩ := id BW; obtain ⟨⟨r0, r1, r2⟩, f0, f1, f2⟩ := id BR))
    have hD0 : Below w1.heap.size w1 w1.drew := (Below.refl _ _).drew
    replace D := D.below hD0
    replace HB := Below.tr HB hD0
    replace BR := BR.below hD0
    refine wp_region_noPanic ?_
    refine wp_region_held_drew (S := fun X => True) (by kernel_rfl) trivial (fun hHeld => ?_)
    refine take_at (i := 0) (v := ?_) rfl (by kernel_rfl) (by kernel_rfl) (by kernel_rfl) (fun _ _ _ h => h) (Or.inl ⟨by rfl, ?_⟩) (by assumption) ?_
    rotate_left 1
    ·
     (intro w hSw; (try dsimp only at hSw); go_simp; (try with_reducible rfl))
    try go_frame
    refine take_at (i := 1) (v := ?_) rfl (by kernel_rfl) (by kernel_rfl) (by kernel_rfl) (fun _ _ _ h => h) (Or.inl ⟨by rfl, ?_⟩) (by assumption) ?_
    rotate_left 1
    ·
     (intro w hSw; (try dsimp only at hSw); go_simp; (try with_reducible rfl))
    try go_frame
    refine wpAnyH_ready (rs := [2]) (by kernel_rfl) (by simp) ?_
    refine cons_at (i := 2) rfl (fun K hK => ?_) AllReadyH.nil
    go_simp
    go_at_call 16
    refine (cH _ h g HB (by omega) D).mono ?_
    rintro y w2 ⟨rfl, D2, T2⟩
    replace BR := BR.turns T2 (by omega)
    replace HB := Below.turns HB T2 (fun i hi => by omega)
    clear r0 r1 r2 f0 f1 f2
    obtain ⟨⟨r0, r1, r2⟩, f0, f1, f2⟩ := id BR
    refine hK.out _ _ ?_ (fun hHeld2 => ?_)
    ·
     exact trivial
    clear hK K
    refine take_at (i := 3) (v := ?_) rfl (by kernel_rfl) (by kernel_rfl) (by kernel_rfl) (fun _ _ _ h => h) (Or.inl ⟨by rfl, ?_⟩) (by assumption) ?_
    rotate_left 1
    ·
     (intro w hSw; (try dsimp only at hSw); go_simp; (try with_reducible rfl))
    try go_frame
    refine take_at (i := 4) (v := ?_) rfl (by kernel_rfl) (by kernel_rfl) (by kernel_rfl) (fun _ _ _ h => h) (Or.inl ⟨by rfl, ?_⟩) (by assumption) ?_
    rotate_left 1
    ·
     (intro w hSw; (try dsimp only at hSw); go_simp; (try with_reducible rfl))
    try go_frame
    refine take_at (i := 5) (v := undef) rfl (by kernel_rfl) (by kernel_rfl) (by kernel_rfl) (fun _ _ _ h => h) (Or.inr ⟨by rfl, rfl⟩) (by assumption) ?_
    try go_frame
    refine take_at (i := 6) (v := undef) rfl (by kernel_rfl) (by kernel_rfl) (by kernel_rfl) (fun _ _ _ h => h) (Or.inr ⟨by rfl, rfl⟩) (by assumption) ?_
    try go_frame
    refine take_at (i := 7) (v := undef) rfl (by kernel_rfl) (by kernel_rfl) (by kernel_rfl) (fun _ _ _ h => h) (Or.inr ⟨by rfl, rfl⟩) (by assumption) ?_
    try go_frame
    refine take_at (i := 8) (v := undef) rfl (by kernel_rfl) (by kernel_rfl) (by kernel_rfl) (fun _ _ _ h => h) (Or.inr ⟨by rfl, rfl⟩) (by assumption) ?_
    try go_frame
    refine take_at (i := 9) (v := undef) rfl (by kernel_rfl) (by kernel_rfl) (by kernel_rfl) (fun _ _ _ h => h) (Or.inr ⟨by rfl, rfl⟩) (by assumption) ?_
    try go_frame
    refine take_at (i := 10) (v := undef) rfl (by kernel_rfl) (by kernel_rfl) (by kernel_rfl) (fun _ _ _ h => h) (Or.inr ⟨by rfl, rfl⟩) (by assumption) ?_
    try go_frame
    refine take_at (i := 11) (v := undef) rfl (by kernel_rfl) (by kernel_rfl) (by kernel_rfl) (fun _ _ _ h => h) (Or.inr ⟨by rfl, rfl⟩) (by assumption) ?_
    try go_frame
    refine take_at (i := 12) (v := undef) rfl (by kernel_rfl) (by kernel_rfl) (by kernel_rfl) (fun _ _ _ h => h) (Or.inr ⟨by rfl, rfl⟩) (by assumption) ?_
    try go_frame
    refine take_at (i := 13) (v := undef) rfl (by kernel_rfl) (by kernel_rfl) (by kernel_rfl) (fun _ _ _ h => h) (Or.inr ⟨by rfl, rfl⟩) (by assumption) ?_
    try go_frame
    refine take_at (i := 14) (v := undef) rfl (by kernel_rfl) (by kernel_rfl) (by kernel_rfl) (fun _ _ _ h => h) (Or.inr ⟨by rfl, rfl⟩) (by assumption) ?_
    try go_frame
    refine take_at (i := 15) (v := undef) rfl (by kernel_rfl) (by kernel_rfl) (by kernel_rfl) (fun _ _ _ h => h) (Or.inr ⟨by rfl, rfl⟩) (by assumption) ?_
    try go_frame
    refine take_at (i := 16) (v := undef) rfl (by kernel_rfl) (by kernel_rfl) (by kernel_rfl) (fun _ _ _ h => h) (Or.inr ⟨by rfl, rfl⟩) (by assumption) ?_
    try go_frame
    refine take_at (i := 17) (v := ?_) rfl (by kernel_rfl) (by kernel_rfl) (by kernel_rfl) (fun _ _ _ h => h) (Or.inl ⟨by rfl, ?_⟩) (by assumption) ?_
    rotate_left 1
    ·
     (intro w hSw; (try dsimp only at hSw); go_simp; (try with_reducible rfl))
    try go_frame
    refine wpAnyH_done (by kernel_rfl) ?_ _
    refine NoPanic.normal ?_
    go_wp2
    obtain ⟨z0, z1, z2⟩ := set3_cells (v0 := .int .i64 0) (v1 := .int .i64 0) (v2 := .int .i64 0) r0 r1 r2
    refine bodyPost_ret (v := .tuple #[.agg #[.int .i64 0, .int .i64 0, .int .i64 0], .int .i64 81]) (by simp [results, Try.results9, go_sem, z0, z1, z2]) rfl ?_
    rw [HF.out.1, HF.out.2.1, HF.out.2.2.1, HF.out.2.2.2]
    exact ⟨rfl, below_set3 HB (by omega)⟩
   | true =>
    by_cases hq : l2 = ns
    ·
     have HF := hpos (by rw [hck2, decide_eq_true hq]; rfl)
     have cQ2 := fun V h g hV hD => cQ V h g l2 hV hD
     rw [decide_eq_true hq] at cQ2
     clear hck2 hpos hcond hq cQ
     go_enter Try.func9, Try.ntmps9
     go_wp2_with (
      (go_at_call 13; rw [← hW]; refine cC.mono ?_; rintro y w1 ⟨h, g, rfl, D, hh, hg, hb⟩; replace HB := Below.tr HB hb; replace BR := BR.below hb; replace BW := BW.below hb; clear x0 x1 x2 x3 x4 r0 r1 r2 f0 f1 f2; obtain ⟨x0, x1, x2, x3, x4⟩ := id BW; obtain ⟨⟨r0, r1, r2⟩, f0, f1, f2⟩ := id BR))
     have hD0 : Below w1.heap.size w1 w1.drew := (Below.refl _ _).drew
     replace D := D.below hD0
     replace HB := Below.tr HB hD0
     replace BR := BR.below hD0
     go_region_held3 (fun X => X.cell? ⟨h, 8, none⟩ = some (.slice (some ⟨g, 0, none⟩) n' n') ∧ X.cell? ⟨h, 1, none⟩ = some (.slice a' n' c')) (exact ⟨D.c8, D.wb.2.1⟩)
      (first
       | (go_at_call 16; refine (cH _ h g HB (by omega) D).mono ?_; rintro y w2 ⟨rfl, D2, T2⟩; replace BR := BR.turns T2 (by omega); replace HB := Below.turns HB T2 (fun i hi => (by omega)); replace D := D2; clear D2 T2)
       | (go_at_call 17; refine (cQ2 _ h g HB D).mono ?_; rintro y w3 ⟨rfl, hb3⟩; replace BR := BR.below hb3; replace HB := Below.tr HB hb3; replace D := D.below hb3; clear hb3))
     clear r0 r1 r2 f0 f1 f2
     obtain ⟨⟨r0, r1, r2⟩, f0, f1, f2⟩ := id BR
     have q5 := D.c5
     have q6 := D.c6
     have q7 := D.c7
     go_wp2
     obtain ⟨z0, z1, z2⟩ := set3_cells (v0 := .int .i64 s.pairs) (v1 := .int .i64 s.height) (v2 := .int .i64 s.blocks) r0 r1 r2
     refine bodyPost_ret (v := .tuple #[.agg #[.int .i64 s.pairs, .int .i64 s.height, .int .i64 s.blocks], .int .i64 0]) (by simp [results, Try.results9, go_sem, z0, z1, z2]) rfl ?_
     rw [HF.out.1, HF.out.2.1, HF.out.2.2.1, HF.out.2.2.2]
     exact ⟨rfl, below_set3 HB (by omega)⟩
    ·
     have HF := hcond (by rw [hck2, decide_eq_false hq]; rfl)
     have cQ2 := fun V h g hV hD => cQ V h g l2 hV hD
     rw [decide_eq_false hq] at cQ2
     clear hck2 hpos hcond hq cQ
     go_enter Try.func9, Try.ntmps9
     go_wp2_with (
      (go_at_call 13; rw [← hW]; refine cC.mono ?_; rintro y w1 ⟨h, g, rfl, D, hh, hg, hb⟩; replace HB := Below.tr HB hb; replace BR := BR.below hb; replace BW := BW.below hb; clear x0 x1 x2 x3 x4 r0 r1 r2 f0 f1 f2; obtain ⟨x0, x1, x2, x3, x4⟩ := id BW; obtain ⟨⟨r0, r1, r2⟩, f0, f1, f2⟩ := id BR))
     have hD0 : Below w1.heap.size w1 w1.drew := (Below.refl _ _).drew
     replace D := D.below hD0
     replace HB := Below.tr HB hD0
     replace BR := BR.below hD0
     go_region_held3 (fun X => X.cell? ⟨h, 8, none⟩ = some (.slice (some ⟨g, 0, none⟩) n' n') ∧ X.cell? ⟨h, 1, none⟩ = some (.slice a' n' c')) (exact ⟨D.c8, D.wb.2.1⟩)
      (first
       | (go_at_call 16; refine (cH _ h g HB (by omega) D).mono ?_; rintro y w2 ⟨rfl, D2, T2⟩; replace BR := BR.turns T2 (by omega); replace HB := Below.turns HB T2 (fun i hi => (by omega)); replace D := D2; clear D2 T2)
       | (go_at_call 17; refine (cQ2 _ h g HB D).mono ?_; rintro y w3 ⟨rfl, hb3⟩; replace BR := BR.below hb3; replace HB := Below.tr HB hb3; replace D := D.below hb3; clear hb3))
     clear r0 r1 r2 f0 f1 f2
     obtain ⟨⟨r0, r1, r2⟩, f0, f1, f2⟩ := id BR
     have q5 := D.c5
     have q6 := D.c6
     have q7 := D.c7
     go_wp2
     obtain ⟨z0, z1, z2⟩ := set3_cells (v0 := .int .i64 0) (v1 := .int .i64 0) (v2 := .int .i64 0) r0 r1 r2
     refine bodyPost_ret (v := .tuple #[.agg #[.int .i64 0, .int .i64 0, .int .i64 0], .int .i64 81]) (by simp [results, Try.results9, go_sem, z0, z1, z2]) rfl ?_
     rw [HF.out.1, HF.out.2.1, HF.out.2.2.1, HF.out.2.2.2]
     exact ⟨rfl, below_set3 HB (by omega)⟩
end Go.Proofs.Ytpepgpjiddophaa
namespace Go.Proofs.Ytpepgpjiddophaa
open Go.RowKit Plain
set_option linter.unusedVariables false
theorem push_T (W : World) (base : Nat) (v : Value) (n : Nat) (l : List Bool) (x : Bool) (hown : W.ownsRow base 4 1 v n (l.map Value.bool)) (hb : base ≤ W.heap.size) (hn : n ≤ 4096) :
  ∃ g cap w', (Builtin.append_ #[22, 22] 22 #[v, .slice (some ⟨W.heap.size, 0, none⟩) 1 1]).run Try.prog (W.alloc (.cells #[.bool x] 4)) = .ok (.slice (some ⟨g, 0, none⟩) (n + 1) cap) w' ∧
   w'.ownsRow base 4 1 (.slice (some ⟨g, 0, none⟩) (n + 1) cap) (n + 1) ((l ++ [x]).map Value.bool) ∧ (W.alloc (.cells #[.bool x] 4)).grownBy w' v.ownBlock ∧ (v.ownBlock = some g ∨ g = W.heap.size + 1) ∧ base ≤ g := by
 obtain ⟨i0, hi, hz0, hz1, hz2⟩ := info_parts Try.info4
 obtain ⟨g, cap, w', h1, h2, h3, h4, h5⟩ := run_append_lies (P := Try.prog) (W.alloc (.cells #[.bool x] 4)) 22 22 base 4 i0 _ 1 1 Try.underlying22 hi hz0 hz1 hz2 rfl (by decide) v n (l.map Value.bool) (hown.alloc _) ⟨W.heap.size, 0, none⟩ 1 1 [.bool x] rfl
  (by
   intro j u hj
   match j, hj with
   | 0, hj => simp at hj; subst hj; rw [at_add]; exact World.cell?_alloc_at _ _ _ _ rfl)
  (by intro u hu; simp at hu; subst hu; rfl) (by omega) (by unfold maxLen; omega) (by omega) (by simp; omega) (W.heap.size + 1) (by simp)
 refine ⟨g, cap, w', h1, by rw [List.map_append]; exact h2, h3, h4, ?_⟩
 obtain ⟨g', cap', he, hb', _⟩ := h2.form (by omega)
 cases he
 exact hb'
theorem own_span {w : World} {base : Nat} {e : TypeId} {s n : Nat} {v : Value} {xs : List Value} (h : w.ownsRow base e s v n xs) {g : Nat} (hg : v.ownBlock = some g) : base ≤ g ∧ g < w.heap.size := h.lt g hg
theorem Box2.grown {w w' : World} {row : Option Nat} {h : Nat} {v0 v1 : Value} (b : Box2 w h v0 v1) (hg : w.grownBy w' row) (hr : ∀ k, row = some k → h < k) : Box2 w' h v0 v1 := by
 have hl := b.lt
 have hb : w'.heap[h]? = w.heap[h]? := hg.block h hl (fun he => by have := hr h he.symm; omega)
 obtain ⟨⟨c0, c1⟩, f0, f1⟩ := b
 exact ⟨⟨by rw [World.cell?_of_block (w := w) hb]; exact c0, by rw [World.cell?_of_block (w := w) hb]; exact c1⟩, by rw [World.frozen?_of_block (w := w) hb]; exact f0, by rw [World.frozen?_of_block (w := w) hb]; exact f1⟩
theorem Box2.set0 {w : World} {h : Nat} {v0 v1 : Value} (b : Box2 w h v0 v1) (u : Value) : Box2 (w.setCell ⟨h, 0, none⟩ u) h u v1 := by
 obtain ⟨⟨c0, c1⟩, f0, f1⟩ := b
 refine ⟨⟨World.cell?_setCell_same _ _ _ c0, ?_⟩, by simpa using f0, by simpa using f1⟩
 rw [World.cell?_setCell_other _ _ _ _ (fun hh => by cases hh)]; exact c1
theorem Box2.set1 {w : World} {h : Nat} {v0 v1 : Value} (b : Box2 w h v0 v1) (u : Value) : Box2 (w.setCell ⟨h, 1, none⟩ u) h v0 u := by
 obtain ⟨⟨c0, c1⟩, f0, f1⟩ := b
 refine ⟨⟨?_, World.cell?_setCell_same _ _ _ c1⟩, by simpa using f0, by simpa using f1⟩
 rw [World.cell?_setCell_other _ _ _ _ (fun hh => by cases hh)]; exact c0
theorem own_below {w : World} {B : Nat} {e : TypeId} {n h i m : Nat} {v : Value} {xs : List Value} {u : Value} (hr : w.ownsRow B e m v n xs) (hh : h < B) : (w.setCell ⟨h, i, none⟩ u).ownsRow B e m v n xs :=
 ownsRow_setCell_below hr (a := ⟨h, i, none⟩) hh u
theorem ownT_of {w : World} {base : Nat} {v : Value} {n : Nat} {l : List Bool} (hl : l.length = n) (h : w.ownsRow base 4 1 v n (l.map Value.bool)) : ∃ a c, v = .slice a n c ∧ OwnT base w a c l := by
 subst hl
 rcases ownsRow_T h with ⟨rfl, rfl⟩ | ⟨g, cap, rfl, hg, hr⟩
 ·
  exact ⟨none, 0, rfl, OwnT_nil _ _⟩
 ·
  exact ⟨_, _, rfl, .inr ⟨g, rfl, hg, hr⟩⟩
set_option maxRecDepth 20000 in
set_option maxHeartbeats 4000000 in
theorem allocRefNewF_any (n : Nat) (w : World) (hn : n ≤ 2048) :
  Calls Try.prog 12 #[.int .i64 n] w fun e w' => ∃ a1 c1 a2 c2, e = .returned (.agg #[.slice a1 n c1, .slice a2 n c2]) ∧ OwnT w.heap.size w' a1 c1 (freshL n) ∧ OwnT w.heap.size w' a2 c2 (freshL n) ∧ Below w.heap.size w w' := by
 obtain ⟨W, hW⟩ : ∃ W, W = (w.alloc (.cells #[.slice none 0 0, .slice none 0 0] 24)).alloc (.cells #[.slice none 0 0, .slice none 0 0] 24) := ⟨_, rfl⟩
 obtain ⟨hB0, hWs, bo, bi⟩ := two_box2 hW
 go_enter Try.func12, Try.ntmps12
 go_wp2
 rw [← hW]
 go_loopw [4] (fun v wr => ∃ (j : Nat) (v0 v1 : Value), j ≤ n ∧ v = .int .i64 j ∧ Box2 wr w.heap.size (.slice none 0 0) (.slice none 0 0) ∧ Box2 wr (w.heap.size + 1) v0 v1 ∧ wr.ownsRow (w.heap.size + 2) 4 1 v0 j ((freshL j).map Value.bool) ∧ wr.ownsRow (w.heap.size + 2) 4 1 v1 j ((freshL j).map Value.bool) ∧ (∀ g, v0.ownBlock = some g → v1.ownBlock ≠ some g) ∧ Below w.heap.size w wr ∧ w.heap.size + 2 ≤ wr.heap.size) (fun v _ => n - (intOf v).toNat)
 case atStart =>
  refine ⟨0, .slice none 0 0, .slice none 0 0, by omega, rfl, bo, bi, ⟨rfl, .inl ⟨rfl, rfl⟩⟩, ⟨rfl, .inl ⟨rfl, rfl⟩⟩, fun g hg => (by simp [Value.ownBlock] at hg), hB0, by omega⟩
 case round =>
  obtain ⟨j, v0, v1, hj, rfl, box, bix, hr0, hr1, hap, hbel, hsz⟩ := hrel
  by_cases hlt : j < n
  ·
   have hlt' : (j : Int) < n := by omega
   obtain ⟨x, hx⟩ : ∃ x, x = decide ((j : Int) < 10) := ⟨_, rfl⟩
   have hnx : freshL (j + 1) = freshL j ++ [x] := by rw [freshL_succ, hx]; congr 2; rw [decide_eq_decide]; omega
   obtain ⟨g0, cap0, w1, run0, own0, gr0, at0, ge0⟩ := push_T wr (w.heap.size + 2) v0 j (freshL j) x hr0 hsz (by omega)
   have hrow0 : ∀ k, v0.ownBlock = some k → w.heap.size + 1 < k := fun k hk => by have := (own_span hr0 hk).1; omega
   have box1 : Box2 w1 w.heap.size (.slice none 0 0) (.slice none 0 0) := (box.alloc _).grown gr0 (fun k hk => by have := hrow0 k hk; omega)
   have bix1 : Box2 w1 (w.heap.size + 1) v0 v1 := (bix.alloc _).grown gr0 hrow0
   have hr1' : w1.ownsRow (w.heap.size + 2) 4 1 v1 j ((freshL j).map Value.bool) := (hr1.alloc _).kept gr0 (by
    cases h : v1.ownBlock with
    | none => exact .inl rfl
    | some k => exact .inr (fun he => hap k he.symm h))
   have hap1 : ∀ k, v1.ownBlock = some k → k ≠ g0 := by
    intro k hk he
    subst he
    rcases at0 with h | h
    ·
     exact hap k h hk
    ·
     have := (own_span hr1 hk).2; omega
   have hb1 : Below w.heap.size w w1 := (hbel.alloc (by omega) _).grown gr0 (by simp; omega) (fun k hk => by have := hrow0 k hk; omega)
   have hsz1 : w.heap.size + 2 ≤ w1.heap.size := by have := (own_span own0 rfl).2; have := gr0.size; simp at this; omega
   obtain ⟨W2, hW2⟩ : ∃ W2, W2 = w1.setCell ⟨w.heap.size + 1, 0, none⟩ (.slice (some ⟨g0, 0, none⟩) (j + 1) cap0) := ⟨_, rfl⟩
   have own0' : W2.ownsRow (w.heap.size + 2) 4 1 (.slice (some ⟨g0, 0, none⟩) (j + 1) cap0) (j + 1) ((freshL j ++ [x]).map Value.bool) := by rw [hW2]; exact own_below own0 (by omega)
   have hr1'' : W2.ownsRow (w.heap.size + 2) 4 1 v1 j ((freshL j).map Value.bool) := by rw [hW2]; exact own_below hr1' (by omega)
   have box2 : Box2 W2 w.heap.size (.slice none 0 0) (.slice none 0 0) := by
    rw [hW2]
    refine ⟨⟨?_, ?_⟩, by simpa using box1.2.1, by simpa using box1.2.2⟩
    ·
     rw [World.cell?_setCell_other _ _ _ _ (fun hh => absurd (congrArg Addr.block hh) (by simp))]; exact box1.1.1
    ·
     rw [World.cell?_setCell_other _ _ _ _ (fun hh => absurd (congrArg Addr.block hh) (by simp))]; exact box1.1.2
   have bix2 : Box2 W2 (w.heap.size + 1) (.slice (some ⟨g0, 0, none⟩) (j + 1) cap0) v1 := by rw [hW2]; exact bix1.set0 _
   have hb2 : Below w.heap.size w W2 := by rw [hW2]; exact hb1.setCell (p := ⟨w.heap.size + 1, 0, none⟩) (Nat.le_succ _) _
   have hsz2 : w.heap.size + 2 ≤ W2.heap.size := by rw [hW2]; simpa using hsz1
   have g0lt : g0 < W2.heap.size := (own_span own0' rfl).2
   obtain ⟨g1, cap1, w3, run1, own1, gr1, at1, ge1⟩ := push_T W2 (w.heap.size + 2) v1 j (freshL j) x hr1'' hsz2 (by omega)
   have hrow1 : ∀ k, v1.ownBlock = some k → w.heap.size + 1 < k := fun k hk => by have := (own_span hr1'' hk).1; omega
   have box3 : Box2 w3 w.heap.size (.slice none 0 0) (.slice none 0 0) := (box2.alloc _).grown gr1 (fun k hk => by have := hrow1 k hk; omega)
   have bix3 : Box2 w3 (w.heap.size + 1) (.slice (some ⟨g0, 0, none⟩) (j + 1) cap0) v1 := (bix2.alloc _).grown gr1 hrow1
   have own0'' : w3.ownsRow (w.heap.size + 2) 4 1 (.slice (some ⟨g0, 0, none⟩) (j + 1) cap0) (j + 1) ((freshL j ++ [x]).map Value.bool) := (own0'.alloc _).kept gr1 (.inr (fun he => hap1 g0 he.symm rfl))
   have hne : g0 ≠ g1 := by
    intro he
    rcases at1 with h | h
    ·
     exact hap1 g1 h he.symm
    ·
     omega
   have hb3 : Below w.heap.size w w3 := (hb2.alloc (by omega) _).grown gr1 (by simp; omega) (fun k hk => by have := hrow1 k hk; omega)
   have hsz3 : w.heap.size + 2 ≤ w3.heap.size := by have := gr1.size; simp at this; omega
   obtain ⟨⟨q0, q1⟩, f0, f1⟩ := bix
   have HF : Hid (∃ (v0 v1 : Value), Box2 (w3.setCell ⟨w.heap.size + 1, 1, none⟩ (.slice (some ⟨g1, 0, none⟩) (j + 1) cap1)) w.heap.size (.slice none 0 0) (.slice none 0 0) ∧ Box2 (w3.setCell ⟨w.heap.size + 1, 1, none⟩ (.slice (some ⟨g1, 0, none⟩) (j + 1) cap1)) (w.heap.size + 1) v0 v1 ∧ (w3.setCell ⟨w.heap.size + 1, 1, none⟩ (.slice (some ⟨g1, 0, none⟩) (j + 1) cap1)).ownsRow (w.heap.size + 2) 4 1 v0 (j + 1) ((freshL (j + 1)).map Value.bool) ∧ (w3.setCell ⟨w.heap.size + 1, 1, none⟩ (.slice (some ⟨g1, 0, none⟩) (j + 1) cap1)).ownsRow (w.heap.size + 2) 4 1 v1 (j + 1) ((freshL (j + 1)).map Value.bool) ∧ (∀ g, v0.ownBlock = some g → v1.ownBlock ≠ some g) ∧ Below w.heap.size w (w3.setCell ⟨w.heap.size + 1, 1, none⟩ (.slice (some ⟨g1, 0, none⟩) (j + 1) cap1)) ∧ w.heap.size + 2 ≤ (w3.setCell ⟨w.heap.size + 1, 1, none⟩ (.slice (some ⟨g1, 0, none⟩) (j + 1) cap1)).heap.size) := by
    refine ⟨.slice (some ⟨g0, 0, none⟩) (j + 1) cap0, .slice (some ⟨g1, 0, none⟩) (j + 1) cap1, ?_, bix3.set1 _, by rw [hnx]; exact own_below own0'' (by omega), by rw [hnx]; exact own_below own1 (by omega), ?_, hb3.setCell (p := ⟨w.heap.size + 1, 1, none⟩) (Nat.le_succ _) _, by simpa using hsz3⟩
    ·
     refine ⟨⟨?_, ?_⟩, by simpa using box3.2.1, by simpa using box3.2.2⟩
     ·
      rw [World.cell?_setCell_other _ _ _ _ (fun hh => absurd (congrArg Addr.block hh) (by simp))]; exact box3.1.1
     ·
      rw [World.cell?_setCell_other _ _ _ _ (fun hh => absurd (congrArg Addr.block hh) (by simp))]; exact box3.1.2
    ·
     intro g h1 h2
     simp [Value.ownBlock] at h1 h2
     omega
   obtain ⟨⟨k0, k1⟩, k2, k3⟩ := bix1
   obtain ⟨⟨s0, s1⟩, s2, s3⟩ := bix3
   have hs2 : W2.heap.size = w1.heap.size := by rw [hW2]; simp
   rw [hs2, hW2] at run1
   have t1 : True := trivial
   clear hr0 hr1 hap hbel hsz own0 gr0 at0 box1 hr1' hap1 hb1 hsz1 own0' hr1'' box2 bix2 hb2 hsz2 g0lt own1 gr1 at1 box3 own0'' hb3 hsz3 hrow0 hrow1 hnx hW2 hs2 box ge0 ge1 hne
   by_cases h10 : (j : Int) < 10
   ·
    obtain rfl : x = true := by rw [hx]; simp [h10]
    clear hx
    go_wp2_with (first
     | (at_builtin; have _t := t1; refine Lib.wpList_append_run _ rfl _ _ _ _ rfl _ _ rfl rfl _ _ run0 ?_; clear t1)
     | (at_builtin; refine Lib.wpList_append_run _ rfl _ _ _ _ rfl _ _ rfl rfl _ _ run1 ?_))
    go_roundw
    case rel =>
     obtain ⟨u0, u1, hh⟩ := HF.out
     exact ⟨j + 1, u0, u1, by omega, by go_num, hh⟩
    case measure => simp [intOf]; omega
   ·
    obtain rfl : x = false := by rw [hx]; simp [h10]
    clear hx
    go_wp2_with (first
     | (at_builtin; have _t := t1; refine Lib.wpList_append_run _ rfl _ _ _ _ rfl _ _ rfl rfl _ _ run0 ?_; clear t1)
     | (at_builtin; refine Lib.wpList_append_run _ rfl _ _ _ _ rfl _ _ rfl rfl _ _ run1 ?_))
    go_roundw
    case rel =>
     obtain ⟨u0, u1, hh⟩ := HF.out
     exact ⟨j + 1, u0, u1, by omega, by go_num, hh⟩
    case measure => simp [intOf]; omega
  ·
   obtain rfl : j = n := by omega
   obtain ⟨a1, c1, rfl, O1⟩ := ownT_of (freshL_length j) hr0
   obtain ⟨a2, c2, rfl, O2⟩ := ownT_of (freshL_length j) hr1
   obtain ⟨⟨q0, q1⟩, -, -⟩ := bix
   obtain ⟨⟨r0, r1⟩, f0, f1⟩ := box
   have H1 : Hid (OwnT (w.heap.size + 2) wr a1 c1 (freshL j)) := O1
   have H2 : Hid (OwnT (w.heap.size + 2) wr a2 c2 (freshL j)) := O2
   clear hr0 hr1 hap O1 O2
   go_wp2
   refine bodyPost_ret (v := .agg #[.slice a1 j c1, .slice a2 j c2]) (by simp [results, Try.results12, go_sem, r0, r1]) rfl ⟨a1, c1, a2, c2, rfl, ?_, ?_, below_set2 hbel (Nat.le_refl _)⟩
   ·
    exact ((H1.out.store (by omega) _ _).store (by omega) _ _).mono (by omega)
   ·
    exact ((H2.out.store (by omega) _ _).store (by omega) _ _).mono (by omega)
theorem fresh11 : rightW (freshL 24) (freshL 24) (List.replicate 24 ⟨#[]⟩) 0 1 = true := by decide +kernel
theorem check_fresh : checkE true (freshL 24) (treeS (freshL 24) (List.replicate 24 ⟨#[]⟩) 0 1) [] = 0 := by decide +kernel
theorem check_none : rightW [] [] [] 0 0 = false := by decide +kernel
theorem isS_made11 (W : World) (n g : Nat) (Z : Array Value) (hZ : Z = (List.replicate n (Value.string ⟨#[]⟩)).toArray) (hn : n ≤ maxLen) (hg : g = W.heap.size) : IsS (W.alloc (.cells Z 9)) (some ⟨g, 0, none⟩) n (List.replicate n ⟨#[]⟩) := by
 subst hg hZ
 refine ⟨by simp, hn, fun j x hx => ?_⟩
 obtain ⟨hj, hx'⟩ := List.getElem?_eq_some_iff.1 hx
 have hx2 : x = ⟨#[]⟩ := by rw [List.getElem_replicate] at hx'; exact hx'.symm
 subst hx2
 simp at hj
 have hc : (W.alloc (.cells (List.replicate n (Value.string ⟨#[]⟩)).toArray 9)).cell? ⟨W.heap.size, j, none⟩ = some (.string ⟨#[]⟩) := (World.cell?_alloc_at _ _ _ _ rfl).trans (show (List.replicate n (Value.string ⟨#[]⟩)).toArray[j]? = some (.string ⟨#[]⟩) by simp [hj])
 exact ⟨W.heap.size, 0, rfl, by simp, by rw [Nat.zero_add]; exact hc, Nat.zero_le _⟩
def Box5c (w : World) (h : Nat) : Prop :=
 WoodBox w h (.slice none 0 0) (.slice none 0 0) (.slice none 0 0) (.int .i64 0) (.int .i64 0) ∧ w.frozen? ⟨h, 0, none⟩ = false ∧ w.frozen? ⟨h, 1, none⟩ = false ∧ w.frozen? ⟨h, 2, none⟩ = false ∧ w.frozen? ⟨h, 3, none⟩ = false ∧ w.frozen? ⟨h, 4, none⟩ = false
theorem box5c_new (w : World) (t : TypeId) : Box5c (w.alloc (.cells #[.slice none 0 0, .slice none 0 0, .slice none 0 0, .int .i64 0, .int .i64 0] t)) w.heap.size := by
 refine ⟨woodBox_new w _ _ _ _ _ t rfl, ?_, ?_, ?_, ?_, ?_⟩
 ·
  exact (World.frozen?_alloc_mark w _ _ _ _ 0).trans (by simp)
 ·
  exact (World.frozen?_alloc_mark w _ _ _ _ 1).trans (by simp)
 ·
  exact (World.frozen?_alloc_mark w _ _ _ _ 2).trans (by simp)
 ·
  exact (World.frozen?_alloc_mark w _ _ _ _ 3).trans (by simp)
 ·
  exact (World.frozen?_alloc_mark w _ _ _ _ 4).trans (by simp)
theorem Box5c.lt {w : World} {h : Nat} (b : Box5c w h) : h < w.heap.size := cell_lt b.1.1
theorem Box5c.below {w w' : World} {h : Nat} (b : Box5c w h) (hb : Below w.heap.size w w') : Box5c w' h :=
 have hl := b.lt
 ⟨b.1.below hb, by rw [hb.frozen (p := ⟨h, 0, none⟩) hl]; exact b.2.1, by rw [hb.frozen (p := ⟨h, 1, none⟩) hl]; exact b.2.2.1, by rw [hb.frozen (p := ⟨h, 2, none⟩) hl]; exact b.2.2.2.1, by rw [hb.frozen (p := ⟨h, 3, none⟩) hl]; exact b.2.2.2.2.1, by rw [hb.frozen (p := ⟨h, 4, none⟩) hl]; exact b.2.2.2.2.2⟩
theorem own_off {B g : Nat} {X : World} {a : Option Addr} {c : Nat} {l : List Bool} (o : OwnT B X a c l) (h : g < B) : ∀ x, a = some x → x.block ≠ g := by
 intro x hx e
 rcases o with ⟨h1, _⟩ | ⟨g', h1, h2, _⟩
 ·
  rw [h1] at hx; cases hx
 ·
  rw [h1] at hx
  cases hx
  have e' : g' = g := e
  omega
theorem isB_off {X : World} {a : Option Addr} {c : Nat} {l : List Bool} (o : IsB X a c l) (h : 0 < l.length) : ∀ x, a = some x → x.block ≠ X.heap.size := by
 intro x hx e
 obtain ⟨b, o', ha, hl⟩ := o.some h
 rw [ha] at hx
 cases hx
 have e' : b = X.heap.size := e
 omega
theorem isB_turns {P : Nat → Prop} {w w' : World} {a : Option Addr} {c : Nat} {l : List Bool} (h : IsB w a c l) (t : Turns P w w') (hp : ∀ x, a = some x → ¬ P x.block) : IsB w' a c l := by
 refine ⟨h.1, h.2.1, fun j x hx => ?_⟩
 obtain ⟨b, o, ha, hlt, hc⟩ := h.2.2 j x hx
 exact ⟨b, o, ha, Nat.lt_of_lt_of_le hlt t.size, t.cell (p := ⟨b, o + j, none⟩) (hp ⟨b, o, none⟩ ha) hc⟩
def FreshAt (w U : World) (L : List Bool) (P : List ByteArray) (g : Nat) (a1 : Option Addr) (c1 : Nat) (a2 : Option Addr) (c2 qb : Nat) : Prop :=
 WoodBox U g (.slice a1 24 c1) (.slice a2 24 c2) (.slice (some ⟨qb, 0, none⟩) 24 24) (.int .i64 0) (.int .i64 1) ∧ IsB U a1 c1 L ∧ IsB U a2 c2 L ∧ IsS U (some ⟨qb, 0, none⟩) 24 P ∧ Below w.heap.size w U
theorem fresh_put {w X : World} {L : List Bool} {P : List ByteArray} {g : Nat} {a1 : Option Addr} {c1 : Nat} {a2 : Option Addr} {c2 qb : Nat} (b : Box5c X g) (i1 : IsB X a1 c1 L) (i2 : IsB X a2 c2 L) (ip : IsS X (some ⟨qb, 0, none⟩) 24 P) (n1 : ∀ x, a1 = some x → x.block ≠ g) (n2 : ∀ x, a2 = some x → x.block ≠ g) (n3 : qb ≠ g) (hg : Below w.heap.size w X ∧ w.heap.size ≤ g) :
  FreshAt w (((((X.setCell ⟨g, 0, none⟩ (.slice a1 24 c1)).setCell ⟨g, 1, none⟩ (.slice a2 24 c2)).setCell ⟨g, 2, none⟩ (.slice (some ⟨qb, 0, none⟩) 24 24)).setCell ⟨g, 3, none⟩ (.int .i64 0)).setCell ⟨g, 4, none⟩ (.int .i64 1)) L P g a1 c1 a2 c2 qb := by
 obtain ⟨⟨b0, b1, b2, b3, b4⟩, -⟩ := b
 have o : ∀ (V : World) (i j : Nat) (x u : Value), i ≠ j → V.cell? ⟨g, i, none⟩ = some x → (V.setCell ⟨g, j, none⟩ u).cell? ⟨g, i, none⟩ = some x := fun V i j x u hi hx => by rw [World.cell?_setCell_other _ _ _ _ (fun hh => hi (by cases hh; rfl))]; exact hx
 have t : Turns (fun k => k = g) X (((((X.setCell ⟨g, 0, none⟩ (.slice a1 24 c1)).setCell ⟨g, 1, none⟩ (.slice a2 24 c2)).setCell ⟨g, 2, none⟩ (.slice (some ⟨qb, 0, none⟩) 24 24)).setCell ⟨g, 3, none⟩ (.int .i64 0)).setCell ⟨g, 4, none⟩ (.int .i64 1)) :=
  ((((Turns.setCell (P := fun k => k = g) (Turns.refl _ _) (p := ⟨g, 0, none⟩) rfl _).setCell (p := ⟨g, 1, none⟩) rfl _).setCell (p := ⟨g, 2, none⟩) rfl _).setCell (p := ⟨g, 3, none⟩) rfl _).setCell (p := ⟨g, 4, none⟩) rfl _
 refine ⟨⟨?_, ?_, ?_, ?_, ?_⟩, isB_turns i1 t n1, isB_turns i2 t n2, ip.turns t (fun x hx e => by cases hx; exact n3 e), Below.turns hg.1 t (fun i hi => by rw [hi]; exact hg.2)⟩
 ·
  exact o _ 0 4 _ _ (by decide) (o _ 0 3 _ _ (by decide) (o _ 0 2 _ _ (by decide) (o _ 0 1 _ _ (by decide) (World.cell?_setCell_same _ _ _ b0))))
 ·
  exact o _ 1 4 _ _ (by decide) (o _ 1 3 _ _ (by decide) (o _ 1 2 _ _ (by decide) (World.cell?_setCell_same _ _ _ (o _ 1 0 _ _ (by decide) b1))))
 ·
  exact o _ 2 4 _ _ (by decide) (o _ 2 3 _ _ (by decide) (World.cell?_setCell_same _ _ _ (o _ 2 1 _ _ (by decide) (o _ 2 0 _ _ (by decide) b2))))
 ·
  exact o _ 3 4 _ _ (by decide) (World.cell?_setCell_same _ _ _ (o _ 3 2 _ _ (by decide) (o _ 3 1 _ _ (by decide) (o _ 3 0 _ _ (by decide) b3))))
 ·
  exact World.cell?_setCell_same _ _ _ (o _ 4 3 _ _ (by decide) (o _ 4 2 _ _ (by decide) (o _ 4 1 _ _ (by decide) (o _ 4 0 _ _ (by decide) b4))))
set_option maxRecDepth 20000 in
set_option maxHeartbeats 4000000 in
theorem alive11_any (w : World) : Calls Try.prog 6 #[] w fun e w' => e = .returned (.bool true) ∧ Below w.heap.size w w' := by
 have cN := fun V => allocRefNewF_any 24 V (by decide)
 have fr := fresh11
 have cf := check_fresh
 obtain ⟨P, hP⟩ : ∃ P, P = List.replicate 24 (⟨#[]⟩ : ByteArray) := ⟨_, rfl⟩
 obtain ⟨L, hL⟩ : ∃ L, L = freshL 24 := ⟨_, rfl⟩
 have l1 : Hid (24 = L.length) := by show _ = _; rw [hL]; decide
 have l24 : Hid (0 < L.length) := by show _ < _; rw [← l1.out]; decide
 have l2 : Hid (24 = P.length) := by show _ = _; rw [hP]; rfl
 rw [← hL, ← hP] at fr cf
 have HP : Hid (List.replicate 24 (⟨#[]⟩ : ByteArray) = P) := hP.symm
 rw [← hL] at cN
 clear hL hP
 obtain ⟨Z, hmk, hZ⟩ : ∃ Z : Array Value, (∀ W : World, (Instr.makeSlice 25 (.int .i64 24) (.int .i64 24)).run Try.prog W = .ok (.slice (some ⟨W.heap.size, 0, none⟩) 24 24) (W.alloc (.cells Z 9))) ∧ Hid (Z = (List.replicate 24 (Value.string ⟨#[]⟩)).toArray) :=
  ⟨madeCells #[.string ⟨#[]⟩] 24, fun W => run_make_row' (P := Try.prog) 25 9 (.string ⟨#[]⟩) 16 Try.underlying25 Try.info9 rfl .i64 .i64 24 (by omega) (by omega) W, made_one _ 24⟩
 obtain ⟨X0, hX0⟩ : ∃ X, X = w.drew := ⟨_, rfl⟩
 have HB0 : Below w.heap.size w X0 := by rw [hX0]; exact (Below.refl _ _).drew
 have HX0 : Hid (X0 = w.drew) := hX0
 clear hX0
 go_enter Try.func6, Try.ntmps6
 go_wp2
 refine (fun (key : Hid (∀ X g a1 c1 a2 c2 qb, FreshAt w X L P g a1 c1 a2 c2 qb → (?prop : World → Nat → Option Addr → Nat → Option Addr → Nat → Nat → Prop) X g a1 c1 a2 c2 qb)) => ?reg) ?kont
 case reg =>
  refine wp_region_noPanic ?_
  refine wp_region_held_drew (S := fun X => True) (by kernel_rfl) trivial (fun hHeld => ?_)
  rw [← HX0.out]
  have HB := HB0
  refine wpAnyH_ready (rs := [0, 1, 3]) (by kernel_rfl) (by simp) ?_
  refine cons_at (i := 0) rfl (fun K hK => ?c00) (cons_at (i := 1) rfl (fun K hK => ?c10) (cons_at (i := 3) rfl (fun K hK => ?c30) AllReadyH.nil))
  case c00 =>
   go_simp
   go_at_call 12
   refine (cN X0).mono ?_
   rintro y X1 ⟨a1, c1, a2, c2, rfl, o1, o2, hb⟩
   have I1 := o1.isB
   have I2 := o2.isB
   replace HB := Below.tr HB hb
   clear hb o1 o2
   refine hK.out _ _ ?_ (fun hHeld1 => ?_)
   ·
    trivial
   clear hK K
   try go_frame
   refine wpAnyH_ready (rs := [1, 3]) (by kernel_rfl) (by simp) ?_
   refine cons_at (i := 1) rfl (fun K hK => ?c11) (cons_at (i := 3) rfl (fun K hK => ?c31) AllReadyH.nil)
   case c11 =>
    go_simp
    have hb : Below X1.heap.size X1 (X1.alloc (.cells Z 9)) := (Below.refl _ _).alloc (Nat.le_refl _) _
    have IP := HP.out ▸ isS_made11 X1 24 X1.heap.size Z hZ.out (by decide) rfl
    have hqb : X1.heap.size < (X1.alloc (.cells Z 9)).heap.size := by simp
    replace I1 := I1.below hb
    replace I2 := I2.below hb
    replace HB := Below.tr HB hb
    clear hb
    generalize X1.alloc (.cells Z 9) = X2 at HB IP hqb I1 I2 ⊢
    generalize X1.heap.size = qb at IP hqb ⊢
    refine hK.out _ _ ?_ (fun hHeld2 => ?_)
    ·
     trivial
    clear hK K
    try go_frame
    refine take_at (i := 2) (v := ?_) rfl (by kernel_rfl) (by kernel_rfl) (by kernel_rfl) (fun _ _ _ h => h) (Or.inl ⟨by rfl, ?_⟩) (by assumption) ?_
    rotate_left 1
    ·
     (intro w hSw; (try dsimp only at hSw); go_simp; (try with_reducible rfl))
    try go_frame
    refine wpAnyH_ready (rs := [3]) (by kernel_rfl) (by simp) ?_
    refine cons_at (i := 3) rfl (fun K hK => ?c32) AllReadyH.nil
    case c32 =>
     go_simp
     have hb : Below X2.heap.size X2 (X2.alloc (.cells #[.slice none 0 0, .slice none 0 0, .slice none 0 0, .int .i64 0, .int .i64 0] 27)) := (Below.refl _ _).alloc (Nat.le_refl _) _
     have N1 : Hid ((∀ x, a1 = some x → x.block ≠ X2.heap.size) ∧ ∀ x, a2 = some x → x.block ≠ X2.heap.size) := ⟨isB_off I1 l24.out, isB_off I2 l24.out⟩
     replace I1 := I1.below hb
     replace I2 := I2.below hb
     have N2 : Hid (qb ≠ X2.heap.size) := fun e => by omega
     replace IP := IP.below hb
     replace hqb := Nat.lt_of_lt_of_le hqb hb.size
     have BX := box5c_new X2 27
     have hb0 := HB.size
     replace HB := Below.tr HB hb
     clear hb
     have hg : w.heap.size ≤ X2.heap.size := hb0
     generalize X2.alloc (.cells #[.slice none 0 0, .slice none 0 0, .slice none 0 0, .int .i64 0, .int .i64 0] 27) = X3 at HB BX IP hqb I1 I2 ⊢
     generalize X2.heap.size = g at BX hg N2 N1 ⊢
     refine hK.out _ _ ?_ (fun hHeld3 => ?_)
     ·
      trivial
     clear hK K
     try go_frame
     obtain ⟨⟨g0, g1, g2, g3, g4⟩, e0, e1, e2, e3, e4⟩ := id BX
     refine wpAnyH_ready (rs := [4]) (by kernel_rfl) (by simp) ?_
     refine cons_at (i := 4) rfl (fun K hK => ?_) AllReadyH.nil
     go_simp
     have F := fresh_put BX I1 I2 IP N1.out.1 N1.out.2 N2.out ⟨HB, hg⟩
     refine hK.out _ _ ?_ (fun hHeldZ => ?_)
     ·
      trivial
     clear hK K
     try go_frame
     refine wpAnyH_done (by kernel_rfl) ?_ _
     refine NoPanic.normal ?_
     generalize ((((X3.setCell ⟨g, 0, none⟩ (.slice a1 24 c1)).setCell ⟨g, 1, none⟩ (.slice a2 24 c2)).setCell ⟨g, 2, none⟩ (.slice (some ⟨qb, 0, none⟩) 24 24)).setCell ⟨g, 3, none⟩ (.int .i64 0)).setCell ⟨g, 4, none⟩ (.int .i64 1) = Y at F ⊢
     exact key.out Y g a1 c1 a2 c2 qb F
   case c31 =>
    go_simp
    have hb : Below X1.heap.size X1 (X1.alloc (.cells #[.slice none 0 0, .slice none 0 0, .slice none 0 0, .int .i64 0, .int .i64 0] 27)) := (Below.refl _ _).alloc (Nat.le_refl _) _
    have N1 : Hid ((∀ x, a1 = some x → x.block ≠ X1.heap.size) ∧ ∀ x, a2 = some x → x.block ≠ X1.heap.size) := ⟨isB_off I1 l24.out, isB_off I2 l24.out⟩
    replace I1 := I1.below hb
    replace I2 := I2.below hb
    have BX := box5c_new X1 27
    have hb0 := HB.size
    replace HB := Below.tr HB hb
    clear hb
    have hg : w.heap.size ≤ X1.heap.size := hb0
    generalize X1.alloc (.cells #[.slice none 0 0, .slice none 0 0, .slice none 0 0, .int .i64 0, .int .i64 0] 27) = X2 at HB BX I1 I2 ⊢
    generalize X1.heap.size = g at BX hg N1 ⊢
    refine hK.out _ _ ?_ (fun hHeld2 => ?_)
    ·
     trivial
    clear hK K
    try go_frame
    refine wpAnyH_ready (rs := [1]) (by kernel_rfl) (by simp) ?_
    refine cons_at (i := 1) rfl (fun K hK => ?c12) AllReadyH.nil
    case c12 =>
     go_simp
     have hb : Below X2.heap.size X2 (X2.alloc (.cells Z 9)) := (Below.refl _ _).alloc (Nat.le_refl _) _
     have IP := HP.out ▸ isS_made11 X2 24 X2.heap.size Z hZ.out (by decide) rfl
     have hqb : X2.heap.size < (X2.alloc (.cells Z 9)).heap.size := by simp
     have N2 : Hid (X2.heap.size ≠ g) := by have := BX.lt; exact fun e => by omega
     replace BX := BX.below hb
     replace I1 := I1.below hb
     replace I2 := I2.below hb
     replace HB := Below.tr HB hb
     clear hb
     generalize X2.alloc (.cells Z 9) = X3 at HB IP hqb BX N2 I1 I2 ⊢
     generalize X2.heap.size = qb at IP hqb N2 ⊢
     refine hK.out _ _ ?_ (fun hHeld3 => ?_)
     ·
      trivial
     clear hK K
     try go_frame
     obtain ⟨⟨g0, g1, g2, g3, g4⟩, e0, e1, e2, e3, e4⟩ := id BX
     refine take_at (i := 2) (v := ?_) rfl (by kernel_rfl) (by kernel_rfl) (by kernel_rfl) (fun _ _ _ h => h) (Or.inl ⟨by rfl, ?_⟩) (by assumption) ?_
     rotate_left 1
     ·
      (intro w hSw; (try dsimp only at hSw); go_simp; (try with_reducible rfl))
     try go_frame
     refine wpAnyH_ready (rs := [4]) (by kernel_rfl) (by simp) ?_
     refine cons_at (i := 4) rfl (fun K hK => ?_) AllReadyH.nil
     go_simp
     have F := fresh_put BX I1 I2 IP N1.out.1 N1.out.2 N2.out ⟨HB, hg⟩
     refine hK.out _ _ ?_ (fun hHeldZ => ?_)
     ·
      trivial
     clear hK K
     try go_frame
     refine wpAnyH_done (by kernel_rfl) ?_ _
     refine NoPanic.normal ?_
     generalize ((((X3.setCell ⟨g, 0, none⟩ (.slice a1 24 c1)).setCell ⟨g, 1, none⟩ (.slice a2 24 c2)).setCell ⟨g, 2, none⟩ (.slice (some ⟨qb, 0, none⟩) 24 24)).setCell ⟨g, 3, none⟩ (.int .i64 0)).setCell ⟨g, 4, none⟩ (.int .i64 1) = Y at F ⊢
     exact key.out Y g a1 c1 a2 c2 qb F
  case c10 =>
   go_simp
   have hb : Below X0.heap.size X0 (X0.alloc (.cells Z 9)) := (Below.refl _ _).alloc (Nat.le_refl _) _
   have IP := HP.out ▸ isS_made11 X0 24 X0.heap.size Z hZ.out (by decide) rfl
   have hqb : X0.heap.size < (X0.alloc (.cells Z 9)).heap.size := by simp
   replace HB := Below.tr HB hb
   clear hb
   generalize X0.alloc (.cells Z 9) = X1 at HB IP hqb ⊢
   generalize X0.heap.size = qb at IP hqb ⊢
   refine hK.out _ _ ?_ (fun hHeld1 => ?_)
   ·
    trivial
   clear hK K
   try go_frame
   refine wpAnyH_ready (rs := [0, 3]) (by kernel_rfl) (by simp) ?_
   refine cons_at (i := 0) rfl (fun K hK => ?c01) (cons_at (i := 3) rfl (fun K hK => ?c31) AllReadyH.nil)
   case c01 =>
    go_simp
    go_at_call 12
    refine (cN X1).mono ?_
    rintro y X2 ⟨a1, c1, a2, c2, rfl, o1, o2, hb⟩
    have I1 := o1.isB
    have I2 := o2.isB
    replace IP := IP.below hb
    replace hqb := Nat.lt_of_lt_of_le hqb hb.size
    replace HB := Below.tr HB hb
    clear hb o1 o2
    refine hK.out _ _ ?_ (fun hHeld2 => ?_)
    ·
     trivial
    clear hK K
    try go_frame
    refine take_at (i := 2) (v := ?_) rfl (by kernel_rfl) (by kernel_rfl) (by kernel_rfl) (fun _ _ _ h => h) (Or.inl ⟨by rfl, ?_⟩) (by assumption) ?_
    rotate_left 1
    ·
     (intro w hSw; (try dsimp only at hSw); go_simp; (try with_reducible rfl))
    try go_frame
    refine wpAnyH_ready (rs := [3]) (by kernel_rfl) (by simp) ?_
    refine cons_at (i := 3) rfl (fun K hK => ?c32) AllReadyH.nil
    case c32 =>
     go_simp
     have hb : Below X2.heap.size X2 (X2.alloc (.cells #[.slice none 0 0, .slice none 0 0, .slice none 0 0, .int .i64 0, .int .i64 0] 27)) := (Below.refl _ _).alloc (Nat.le_refl _) _
     have N1 : Hid ((∀ x, a1 = some x → x.block ≠ X2.heap.size) ∧ ∀ x, a2 = some x → x.block ≠ X2.heap.size) := ⟨isB_off I1 l24.out, isB_off I2 l24.out⟩
     replace I1 := I1.below hb
     replace I2 := I2.below hb
     have N2 : Hid (qb ≠ X2.heap.size) := fun e => by omega
     replace IP := IP.below hb
     replace hqb := Nat.lt_of_lt_of_le hqb hb.size
     have BX := box5c_new X2 27
     have hb0 := HB.size
     replace HB := Below.tr HB hb
     clear hb
     have hg : w.heap.size ≤ X2.heap.size := hb0
     generalize X2.alloc (.cells #[.slice none 0 0, .slice none 0 0, .slice none 0 0, .int .i64 0, .int .i64 0] 27) = X3 at HB BX IP hqb I1 I2 ⊢
     generalize X2.heap.size = g at BX hg N2 N1 ⊢
     refine hK.out _ _ ?_ (fun hHeld3 => ?_)
     ·
      trivial
     clear hK K
     try go_frame
     obtain ⟨⟨g0, g1, g2, g3, g4⟩, e0, e1, e2, e3, e4⟩ := id BX
     refine wpAnyH_ready (rs := [4]) (by kernel_rfl) (by simp) ?_
     refine cons_at (i := 4) rfl (fun K hK => ?_) AllReadyH.nil
     go_simp
     have F := fresh_put BX I1 I2 IP N1.out.1 N1.out.2 N2.out ⟨HB, hg⟩
     refine hK.out _ _ ?_ (fun hHeldZ => ?_)
     ·
      trivial
     clear hK K
     try go_frame
     refine wpAnyH_done (by kernel_rfl) ?_ _
     refine NoPanic.normal ?_
     generalize ((((X3.setCell ⟨g, 0, none⟩ (.slice a1 24 c1)).setCell ⟨g, 1, none⟩ (.slice a2 24 c2)).setCell ⟨g, 2, none⟩ (.slice (some ⟨qb, 0, none⟩) 24 24)).setCell ⟨g, 3, none⟩ (.int .i64 0)).setCell ⟨g, 4, none⟩ (.int .i64 1) = Y at F ⊢
     exact key.out Y g a1 c1 a2 c2 qb F
   case c31 =>
    go_simp
    have hb : Below X1.heap.size X1 (X1.alloc (.cells #[.slice none 0 0, .slice none 0 0, .slice none 0 0, .int .i64 0, .int .i64 0] 27)) := (Below.refl _ _).alloc (Nat.le_refl _) _
    have N2 : Hid (qb ≠ X1.heap.size) := fun e => by omega
    replace IP := IP.below hb
    replace hqb := Nat.lt_of_lt_of_le hqb hb.size
    have BX := box5c_new X1 27
    have hb0 := HB.size
    replace HB := Below.tr HB hb
    clear hb
    have hg : w.heap.size ≤ X1.heap.size := hb0
    generalize X1.alloc (.cells #[.slice none 0 0, .slice none 0 0, .slice none 0 0, .int .i64 0, .int .i64 0] 27) = X2 at HB BX IP hqb ⊢
    generalize X1.heap.size = g at BX hg N2 ⊢
    refine hK.out _ _ ?_ (fun hHeld2 => ?_)
    ·
     trivial
    clear hK K
    try go_frame
    refine wpAnyH_ready (rs := [0]) (by kernel_rfl) (by simp) ?_
    refine cons_at (i := 0) rfl (fun K hK => ?c02) AllReadyH.nil
    case c02 =>
     go_simp
     go_at_call 12
     refine (cN X2).mono ?_
     rintro y X3 ⟨a1, c1, a2, c2, rfl, o1, o2, hb⟩
     have I1 := o1.isB
     have I2 := o2.isB
     have N1 : Hid ((∀ x, a1 = some x → x.block ≠ g) ∧ ∀ x, a2 = some x → x.block ≠ g) := ⟨own_off o1 BX.lt, own_off o2 BX.lt⟩
     replace BX := BX.below hb
     replace IP := IP.below hb
     replace hqb := Nat.lt_of_lt_of_le hqb hb.size
     replace HB := Below.tr HB hb
     clear hb o1 o2
     refine hK.out _ _ ?_ (fun hHeld3 => ?_)
     ·
      trivial
     clear hK K
     try go_frame
     obtain ⟨⟨g0, g1, g2, g3, g4⟩, e0, e1, e2, e3, e4⟩ := id BX
     refine take_at (i := 2) (v := ?_) rfl (by kernel_rfl) (by kernel_rfl) (by kernel_rfl) (fun _ _ _ h => h) (Or.inl ⟨by rfl, ?_⟩) (by assumption) ?_
     rotate_left 1
     ·
      (intro w hSw; (try dsimp only at hSw); go_simp; (try with_reducible rfl))
     try go_frame
     refine wpAnyH_ready (rs := [4]) (by kernel_rfl) (by simp) ?_
     refine cons_at (i := 4) rfl (fun K hK => ?_) AllReadyH.nil
     go_simp
     have F := fresh_put BX I1 I2 IP N1.out.1 N1.out.2 N2.out ⟨HB, hg⟩
     refine hK.out _ _ ?_ (fun hHeldZ => ?_)
     ·
      trivial
     clear hK K
     try go_frame
     refine wpAnyH_done (by kernel_rfl) ?_ _
     refine NoPanic.normal ?_
     generalize ((((X3.setCell ⟨g, 0, none⟩ (.slice a1 24 c1)).setCell ⟨g, 1, none⟩ (.slice a2 24 c2)).setCell ⟨g, 2, none⟩ (.slice (some ⟨qb, 0, none⟩) 24 24)).setCell ⟨g, 3, none⟩ (.int .i64 0)).setCell ⟨g, 4, none⟩ (.int .i64 1) = Y at F ⊢
     exact key.out Y g a1 c1 a2 c2 qb F
  case c30 =>
   go_simp
   have hb : Below X0.heap.size X0 (X0.alloc (.cells #[.slice none 0 0, .slice none 0 0, .slice none 0 0, .int .i64 0, .int .i64 0] 27)) := (Below.refl _ _).alloc (Nat.le_refl _) _
   have BX := box5c_new X0 27
   have hb0 := HB.size
   replace HB := Below.tr HB hb
   clear hb
   have hg : w.heap.size ≤ X0.heap.size := hb0
   generalize X0.alloc (.cells #[.slice none 0 0, .slice none 0 0, .slice none 0 0, .int .i64 0, .int .i64 0] 27) = X1 at HB BX ⊢
   generalize X0.heap.size = g at BX hg ⊢
   refine hK.out _ _ ?_ (fun hHeld1 => ?_)
   ·
    trivial
   clear hK K
   try go_frame
   refine wpAnyH_ready (rs := [0, 1]) (by kernel_rfl) (by simp) ?_
   refine cons_at (i := 0) rfl (fun K hK => ?c01) (cons_at (i := 1) rfl (fun K hK => ?c11) AllReadyH.nil)
   case c01 =>
    go_simp
    go_at_call 12
    refine (cN X1).mono ?_
    rintro y X2 ⟨a1, c1, a2, c2, rfl, o1, o2, hb⟩
    have I1 := o1.isB
    have I2 := o2.isB
    have N1 : Hid ((∀ x, a1 = some x → x.block ≠ g) ∧ ∀ x, a2 = some x → x.block ≠ g) := ⟨own_off o1 BX.lt, own_off o2 BX.lt⟩
    replace BX := BX.below hb
    replace HB := Below.tr HB hb
    clear hb o1 o2
    refine hK.out _ _ ?_ (fun hHeld2 => ?_)
    ·
     trivial
    clear hK K
    try go_frame
    refine wpAnyH_ready (rs := [1]) (by kernel_rfl) (by simp) ?_
    refine cons_at (i := 1) rfl (fun K hK => ?c12) AllReadyH.nil
    case c12 =>
     go_simp
     have hb : Below X2.heap.size X2 (X2.alloc (.cells Z 9)) := (Below.refl _ _).alloc (Nat.le_refl _) _
     have IP := HP.out ▸ isS_made11 X2 24 X2.heap.size Z hZ.out (by decide) rfl
     have hqb : X2.heap.size < (X2.alloc (.cells Z 9)).heap.size := by simp
     have N2 : Hid (X2.heap.size ≠ g) := by have := BX.lt; exact fun e => by omega
     replace BX := BX.below hb
     replace I1 := I1.below hb
     replace I2 := I2.below hb
     replace HB := Below.tr HB hb
     clear hb
     generalize X2.alloc (.cells Z 9) = X3 at HB IP hqb BX N2 I1 I2 ⊢
     generalize X2.heap.size = qb at IP hqb N2 ⊢
     refine hK.out _ _ ?_ (fun hHeld3 => ?_)
     ·
      trivial
     clear hK K
     try go_frame
     obtain ⟨⟨g0, g1, g2, g3, g4⟩, e0, e1, e2, e3, e4⟩ := id BX
     refine take_at (i := 2) (v := ?_) rfl (by kernel_rfl) (by kernel_rfl) (by kernel_rfl) (fun _ _ _ h => h) (Or.inl ⟨by rfl, ?_⟩) (by assumption) ?_
     rotate_left 1
     ·
      (intro w hSw; (try dsimp only at hSw); go_simp; (try with_reducible rfl))
     try go_frame
     refine wpAnyH_ready (rs := [4]) (by kernel_rfl) (by simp) ?_
     refine cons_at (i := 4) rfl (fun K hK => ?_) AllReadyH.nil
     go_simp
     have F := fresh_put BX I1 I2 IP N1.out.1 N1.out.2 N2.out ⟨HB, hg⟩
     refine hK.out _ _ ?_ (fun hHeldZ => ?_)
     ·
      trivial
     clear hK K
     try go_frame
     refine wpAnyH_done (by kernel_rfl) ?_ _
     refine NoPanic.normal ?_
     generalize ((((X3.setCell ⟨g, 0, none⟩ (.slice a1 24 c1)).setCell ⟨g, 1, none⟩ (.slice a2 24 c2)).setCell ⟨g, 2, none⟩ (.slice (some ⟨qb, 0, none⟩) 24 24)).setCell ⟨g, 3, none⟩ (.int .i64 0)).setCell ⟨g, 4, none⟩ (.int .i64 1) = Y at F ⊢
     exact key.out Y g a1 c1 a2 c2 qb F
   case c11 =>
    go_simp
    have hb : Below X1.heap.size X1 (X1.alloc (.cells Z 9)) := (Below.refl _ _).alloc (Nat.le_refl _) _
    have IP := HP.out ▸ isS_made11 X1 24 X1.heap.size Z hZ.out (by decide) rfl
    have hqb : X1.heap.size < (X1.alloc (.cells Z 9)).heap.size := by simp
    have N2 : Hid (X1.heap.size ≠ g) := by have := BX.lt; exact fun e => by omega
    replace BX := BX.below hb
    replace HB := Below.tr HB hb
    clear hb
    generalize X1.alloc (.cells Z 9) = X2 at HB IP hqb BX N2 ⊢
    generalize X1.heap.size = qb at IP hqb N2 ⊢
    refine hK.out _ _ ?_ (fun hHeld2 => ?_)
    ·
     trivial
    clear hK K
    try go_frame
    refine wpAnyH_ready (rs := [0]) (by kernel_rfl) (by simp) ?_
    refine cons_at (i := 0) rfl (fun K hK => ?c02) AllReadyH.nil
    case c02 =>
     go_simp
     go_at_call 12
     refine (cN X2).mono ?_
     rintro y X3 ⟨a1, c1, a2, c2, rfl, o1, o2, hb⟩
     have I1 := o1.isB
     have I2 := o2.isB
     have N1 : Hid ((∀ x, a1 = some x → x.block ≠ g) ∧ ∀ x, a2 = some x → x.block ≠ g) := ⟨own_off o1 BX.lt, own_off o2 BX.lt⟩
     replace BX := BX.below hb
     replace IP := IP.below hb
     replace hqb := Nat.lt_of_lt_of_le hqb hb.size
     replace HB := Below.tr HB hb
     clear hb o1 o2
     refine hK.out _ _ ?_ (fun hHeld3 => ?_)
     ·
      trivial
     clear hK K
     try go_frame
     obtain ⟨⟨g0, g1, g2, g3, g4⟩, e0, e1, e2, e3, e4⟩ := id BX
     refine take_at (i := 2) (v := ?_) rfl (by kernel_rfl) (by kernel_rfl) (by kernel_rfl) (fun _ _ _ h => h) (Or.inl ⟨by rfl, ?_⟩) (by assumption) ?_
     rotate_left 1
     ·
      (intro w hSw; (try dsimp only at hSw); go_simp; (try with_reducible rfl))
     try go_frame
     refine wpAnyH_ready (rs := [4]) (by kernel_rfl) (by simp) ?_
     refine cons_at (i := 4) rfl (fun K hK => ?_) AllReadyH.nil
     go_simp
     have F := fresh_put BX I1 I2 IP N1.out.1 N1.out.2 N2.out ⟨HB, hg⟩
     refine hK.out _ _ ?_ (fun hHeldZ => ?_)
     ·
      trivial
     clear hK K
     try go_frame
     refine wpAnyH_done (by kernel_rfl) ?_ _
     refine NoPanic.normal ?_
     generalize ((((X3.setCell ⟨g, 0, none⟩ (.slice a1 24 c1)).setCell ⟨g, 1, none⟩ (.slice a2 24 c2)).setCell ⟨g, 2, none⟩ (.slice (some ⟨qb, 0, none⟩) 24 24)).setCell ⟨g, 3, none⟩ (.int .i64 0)).setCell ⟨g, 4, none⟩ (.int .i64 1) = Y at F ⊢
     exact key.out Y g a1 c1 a2 c2 qb F
 case kont =>
  intro X g a1 c1 a2 c2 qb F
  obtain ⟨BW, i1, i2, ip, HB⟩ := F
  have cC : ∀ V, Below X.heap.size X V → Calls Try.prog 9 #[.agg #[.slice a1 24 c1, .slice a2 24 c2, .slice (some ⟨qb, 0, none⟩) 24 24, .int .i64 0, .int .i64 1], .slice none 0 0] V fun x w' => ∃ p h b, x = .returned (.tuple #[.agg #[.int .i64 p, .int .i64 h, .int .i64 b], .int .i64 0]) ∧ Below V.heap.size V w' := fun V hV => by
   have := check_any a1 a2 (some ⟨qb, 0, none⟩) 24 c1 24 c2 24 24 L L P 0 1 none 0 0 [] V l1.out l1.out l2.out rfl (i1.below hV) (i2.below hV) (ip.below hV) (isI_nil _)
   rw [fr, cf] at this
   exact this.mono fun x w' hh => ⟨_, _, _, hh.1, hh.2⟩
  have cD : ∀ V, Calls Try.prog 9 #[.agg #[.slice none 0 0, .slice none 0 0, .slice none 0 0, .int .i64 0, .int .i64 0], .slice none 0 0] V fun x w' => ∃ p h b, x = .returned (.tuple #[.agg #[.int .i64 p, .int .i64 h, .int .i64 b], .int .i64 1]) ∧ Below V.heap.size V w' := fun V => by
   have := check_any none none none 0 0 0 0 0 0 [] [] [] 0 0 none 0 0 [] V rfl rfl rfl rfl (IsB_nil _) (IsB_nil _) (isS_nil _) (isI_nil _)
   rw [check_none, check_right] at this
   exact this.mono fun x w' hh => ⟨_, _, _, hh.1, hh.2⟩
  obtain ⟨x0, x1, x2, x3, x4⟩ := id BW
  have tok1 : True := trivial
  have tok2 : True := trivial
  clear fr cf l1 l2 l24 i1 i2 ip
  go_wp2_with (first
   | (go_at_call 9; have _t := tok1; refine (cC _ (Below.refl _ _)).mono ?_; rintro y w2 ⟨p1, h1, b1, rfl, hb⟩; replace HB := (Below.tr HB hb).alloc (Below.tr HB hb).size (.cells #[.int .i64 p1, .int .i64 h1, .int .i64 b1] 35); clear tok1 cC x0 x1 x2 x3 x4 hb)
   | (go_at_call 9; have _t := tok2; refine (cD _).mono ?_; rintro y w3 ⟨p2, h2, b2, rfl, hb2⟩; replace HB := (Below.tr HB hb2).alloc (Below.tr HB hb2).size (.cells #[.int .i64 p2, .int .i64 h2, .int .i64 b2] 35); clear tok2))
  go_ret
  exact ⟨rfl, HB⟩
end Go.Proofs.Ytpepgpjiddophaa
namespace Go.Proofs.Ytpepgpjiddophaa
open Go.RowKit Plain Go.ChangeShapes Go.WideShapes
set_option linter.unusedVariables false
theorem array5 {α : Type} {cs : Array α} (h : cs.size = 5) : ∃ c0 c1 c2 c3 c4, cs = #[c0, c1, c2, c3, c4] := by
 rcases cs with ⟨l⟩
 match l, h with
 | [c0, c1, c2, c3, c4], _ => exact ⟨c0, c1, c2, c3, c4, rfl⟩
set_option maxRecDepth 20000 in
theorem open_wood {H : Type} {enc : TypeId × Value → H} {w : World} {r : Reach} {b0 : Nat} {v : Value} {d : DataW H} {p : List MemPlace}
  (hv : Value.okWide Try.prog w r b0 27 v) (h : DataW.Trod enc Try.prog w 0 (fun _ => true) true 27 v d p) :
  ∃ a c bs a' c' ns b f ps root gen, v = .agg #[.slice a bs.length c, .slice a' ns.length c', .slice b ps.length f, .int .i64 root, .int .i64 gen] ∧ IsB w a c bs ∧ IsB w a' c' ns ∧ IsS w b f ps ∧ (Lit.int .i64 root).wf = true ∧ (Lit.int .i64 gen).wf = true := by
 obtain ⟨cs, rfl, hsz⟩ := okWide_struct Try.underlying27 hv
 obtain ⟨c0, c1, c2, c3, c4, rfl⟩ := array5 (hsz.trans (by kernel_rfl))
 obtain ⟨fuel, hf⟩ := h
 obtain ⟨y0, y1, y2, y3, n, hx, _, h0, h1, h2, h3⟩ := Joins.trod_struct4 Try.underlying27 hf
 have s0 : Try.prog.cellsOf 24 = 2 := by kernel_rfl
 have s1 : Try.prog.cellsOf 25 = 1 := by kernel_rfl
 have s2 : Try.prog.cellsOf 3 = 1 := by kernel_rfl
 have s3 : Try.prog.cellsOf 22 = 1 := by kernel_rfl
 simp only [Value.cells, s0, s1, s2, List.drop_zero, List.drop_succ_cons, List.take_succ_cons, List.take_zero] at h0 h1 h2 h3
 obtain ⟨z0, z1, m, _, _, g0, g1⟩ := trod_struct2 Try.underlying24 h0
 simp only [s3, List.drop_zero, List.drop_succ_cons, List.take_succ_cons, List.take_zero] at g0 g1
 obtain ⟨a, c, bs, rfl, hB⟩ := open_B g0
 obtain ⟨a', c', ns, rfl, hB'⟩ := open_B g1
 obtain ⟨b, f, ps, rfl, hP⟩ := open_S h1
 obtain ⟨root, hr, _, wr⟩ := DataW.trod_int (k := .i64) Try.underlying3 h2
 obtain ⟨gen, hg, _, wg⟩ := DataW.trod_int (k := .i64) Try.underlying3 h3
 simp at hr hg
 subst hr hg
 exact ⟨a, c, bs, a', c', ns, b, f, ps, root, gen, rfl, hB, hB', hP, wr, wg⟩
end Go.Proofs.Ytpepgpjiddophaa
namespace Go.Proofs.Ytpepgpjiddophaa
open Go.RowKit Plain
set_option linter.unusedVariables false
set_option maxRecDepth 20000 in
theorem small11_any (a a' b : Option Addr) (n c n' c' p f : Nat) (root gen : Int) (w : World) (hn : n' ≤ 9223372036854775807) (hp : p ≤ 9223372036854775807) :
  Calls Try.prog 5 #[.agg #[.slice a n c, .slice a' n' c', .slice b p f, .int .i64 root, .int .i64 gen]] w fun e w' => e = .returned (.bool (decide (n' ≤ 300) && decide (p ≤ 300))) ∧ Below w.heap.size w w' := by
 have HB : Below w.heap.size w (w.alloc (.cells #[.slice a n c, .slice a' n' c', .slice b p f, .int .i64 root, .int .i64 gen] 27)) := (Below.refl _ _).alloc (Nat.le_refl _) _
 obtain ⟨r, hr⟩ : ∃ r, r = (decide (n' ≤ 300) && decide (p ≤ 300)) := ⟨_, rfl⟩
 rw [← hr]
 by_cases h1 : n' ≤ 300
 ·
  have h1' : (n' : Int) ≤ 300 := by omega
  have hr' : Hid (r = decide ((p : Int) ≤ 300)) := by
   show _ = _
   rw [hr, decide_eq_true h1, Bool.true_and]
   exact decide_eq_decide.2 (by omega)
  clear hr h1
  go_enter Try.func5, Try.ntmps5
  go_wp2
  go_ret
  exact ⟨by rw [hr'.out]; rfl, HB⟩
 ·
  have h1' : ¬ (n' : Int) ≤ 300 := by omega
  have hr' : r = false := by rw [hr, decide_eq_false h1]; rfl
  clear hr h1
  go_enter Try.func5, Try.ntmps5
  go_wp2
  go_ret
  exact ⟨rfl, HB⟩
section
variable {V : World} {h : Nat} {a : Option Addr} {n c : Nat} {a' : Option Addr} {n' c' : Nat} {b : Option Addr} {p f : Nat} {bs ns : List Bool} {ps : List ByteArray} {root gen : Int}
theorem check_in (x : WoodIn V h a n c a' n' c' b p f bs ns ps root gen) (am : Option Addr) (cm nm : Nat) (ms : List Int) (hm : nm = ms.length) (hI : IsI V am cm ms) : Calls Try.prog 9 #[.agg #[.slice a n c, .slice a' n' c', .slice b p f, .int .i64 root, .int .i64 gen], .slice am nm cm] V fun x w' => x = .returned (.tuple #[.agg #[.int .i64 (checkP (rightW bs ns ps root gen) ns (treeS ns ps root gen) ms), .int .i64 (checkH (rightW bs ns ps root gen) ns (treeS ns ps root gen) ms), .int .i64 (checkB (rightW bs ns ps root gen) ns (treeS ns ps root gen) ms)], .int .i64 (checkE (rightW bs ns ps root gen) ns (treeS ns ps root gen) ms)]) ∧ Below V.heap.size V w' :=
 check_any a a' b n c n' c' p f bs ns ps root gen am cm nm ms V x.2.1 x.2.2.1 x.2.2.2.1 hm x.2.2.2.2.1 x.2.2.2.2.2.1 x.2.2.2.2.2.2 hI
end
theorem holds_now {ns : List Bool} {ps : List ByteArray} {gen : Int} : ∀ b r (nd : NodeS), holdsS ns ps gen b r = some nd → atB ns b.toNat = true := by
 intro b r nd h
 unfold holdsS at h
 split at h
 ·
  rename_i hh
  unfold atB
  rw [← List.getD_eq_getElem?_getD]
  exact hh.2.2.2
 ·
  cases h
theorem tree_now {ns : List Bool} {ps : List ByteArray} {root gen : Int} : ∀ b ∈ (treeS ns ps root gen).blocks, atB ns b.toNat = true := by
 unfold treeS
 split
 ·
  exact fun b hb => by simp [TreeS.none] at hb
 ·
  exact below_blocks (fun b r nd h => holds_now b r nd h) 8 _ _ _ _ (fun b hb => by simp [TreeS.none] at hb)
theorem tree_mono {ns ms : List Bool} {ps : List ByteArray} {root gen : Int} (hl : ms.length = ns.length) (hle : ∀ i, atB ns i = true → atB ms i = true) (hb : (treeS ns ps root gen).bad = false) : treeS ms ps root gen = treeS ns ps root gen := by
 unfold treeS at hb ⊢
 split
 ·
  rfl
 ·
  rename_i hr
  rw [if_neg hr] at hb
  refine below_mono (fun b r nd h => ?_) 8 _ _ _ _ hb
  have h1 := hle _ (holds_now b r nd h)
  unfold holdsS at h ⊢
  split at h
  ·
   rename_i hh
   rw [if_pos ⟨hh.1, by rw [hl]; exact hh.2.1, hh.2.2.1, by rw [List.getD_eq_getElem?_getD]; exact h1⟩]
   exact h
  ·
   cases h
theorem right_flip {bs ns : List Bool} {ps : List ByteArray} {root gen : Int} (h : rightW bs ns ps root gen = true) {k : Nat} (hk : 10 ≤ k) (x : Bool) : rightW bs (ns.set k x) ps root gen = true := by
 have hA := right_set (rightW_now h) hk x
 unfold rightW at h ⊢
 rw [List.length_set]
 simp only [Bool.and_eq_true] at h ⊢
 exact ⟨⟨⟨⟨⟨hA, h.1.1.1.1.2⟩, h.1.1.1.2⟩, h.1.1.2⟩, h.1.2⟩, h.2⟩
theorem check_zero {right : Bool} {ns : List Bool} {t : TreeS} {more : List Int} (h : checkE right ns t more = 0) : right = true ∧ t.bad = false ∧ checkOK ns t more = true := by
 unfold checkE at h
 split at h
 ·
  rename_i hr
  split at h
  ·
   rename_i hh; exact ⟨hr, hh⟩
  ·
   cases h
 ·
  cases h
theorem check_held0 {ns : List Bool} {t : TreeS} (h : checkOK ns t [] = true) : HeldBy ns.length ns (blocksL ns.length t.blocks) := by
 unfold checkOK moreL at h
 exact just_iff.1 h
theorem lost_more {ns : List Bool} {ps : List ByteArray} {root gen : Int} {k : Nat} (hk : 10 ≤ k) (hkn : k < ns.length) (hx : ns[k]? = some false) (hb : (treeS ns ps root gen).bad = false) (hc : checkOK ns (treeS ns ps root gen) [] = true) :
  checkE true (ns.set k true) (treeS (ns.set k true) ps root gen) [] = 81 ∧ checkE true (ns.set k true) (treeS (ns.set k true) ps root gen) [(k : Int)] = 0 := by
 have ht : treeS (ns.set k true) ps root gen = treeS ns ps root gen := tree_mono (List.length_set) (fun i hi => by rw [atB_put]; split; rfl; exact hi) hb
 have hH := check_held0 hc
 rw [ht]
 have hno : (blocksL ns.length (treeS ns ps root gen).blocks).contains (k : Int) = false := by
  have := hH.2 k hkn
  rw [atB_some hx] at this
  exact (Bool.or_eq_false_iff.1 this.symm).2
 constructor
 ·
  refine check_not ?_
  unfold checkOK moreL
  rw [List.length_set]
  show justL _ _ = false
  cases hj : justL (ns.set k true) (blocksL ns.length (treeS ns ps root gen).blocks) with
  | false => rfl
  | true =>
   have := (just_iff.1 hj).2 k (by rw [List.length_set]; exact hkn)
   rw [atB_put, if_pos ⟨rfl, hkn⟩, hno, decide_eq_false (by omega)] at this
   cases this
 ·
  refine check_ok hb ?_
  unfold checkOK
  rw [List.length_set]
  have hm : moreL ns.length (blocksL ns.length (treeS ns ps root gen).blocks) [(k : Int)] = some (blocksL ns.length (treeS ns ps root gen).blocks ++ [(k : Int)]) := by
   rw [moreL, if_neg (fun hh => by
    rcases hh with e | e | e
    ·
     omega
    ·
     omega
    ·
     rw [List.contains_iff_mem.2 e] at hno; cases hno)]
   rfl
  rw [hm]
  refine just_iff.2 ?_
  rw [List.length_set]
  have := hH.take (b := (k : Int)) (l' := blocksL ns.length (treeS ns ps root gen).blocks ++ [(k : Int)]) (by omega) (by omega) (contains_snoc _ _)
  rw [Int.toNat_natCast] at this
  exact this
theorem lost_less {ns : List Bool} {ps : List ByteArray} {root gen : Int} {k : Nat} (hk : 10 ≤ k) (hkn : k < ns.length) (hx : ns[k]? = some true) (hb : (treeS ns ps root gen).bad = false) (hc : checkOK ns (treeS ns ps root gen) [] = true) (more : List Int) :
  checkE true (ns.set k false) (treeS (ns.set k false) ps root gen) more = 81 := by
 refine check_bad ?_
 cases hb2 : (treeS (ns.set k false) ps root gen).bad with
 | true => rfl
 | false =>
  exfalso
  have ht : treeS ns ps root gen = treeS (ns.set k false) ps root gen := tree_mono (List.length_set).symm (fun i hi => by
   rw [atB_put] at hi
   split at hi
   ·
    cases hi
   ·
    exact hi) hb2
  have hH := check_held0 hc
  have h1 := hH.2 k hkn
  rw [atB_some hx, decide_eq_false (by omega), Bool.false_or] at h1
  have h2 := (blocksL_mem.1 (List.contains_iff_mem.1 h1.symm)).2.2
  rw [ht] at h2
  have h3 := tree_now _ h2
  rw [Int.toNat_natCast, atB_put, if_pos ⟨rfl, hkn⟩] at h3
  cases h3
theorem lost_place (z : Int) (n : Nat) (h : 10 < n) (hn : n ≤ 300) : ∃ (d : Nat) (r q : Int) (t k : Nat), (n : Int) - 10 = d ∧ 0 < d ∧ z.tmod d = r ∧ -(d : Int) < r ∧ r < d ∧ r + n - 10 = q ∧ 0 ≤ q ∧ q ≤ 1000 ∧ q.tmod d = t ∧ 10 + (t : Int) = k ∧ 10 ≤ k ∧ k < n := by
 obtain ⟨d, hd⟩ : ∃ d : Nat, d = n - 10 := ⟨_, rfl⟩
 have hd0 : (0 : Int) < d := by omega
 have h1 : z.tmod d < d := Int.tmod_lt_of_pos z hd0
 have h2 : -(d : Int) < z.tmod d := by
  have := Int.tmod_lt_of_pos (-z) hd0
  rw [Int.neg_tmod] at this
  omega
 have h3 := Int.tmod_lt_of_pos (z.tmod d + n - 10) hd0
 have h4 : 0 ≤ (z.tmod d + n - 10).tmod d := Int.tmod_nonneg _ (by omega)
 exact ⟨d, z.tmod d, z.tmod d + n - 10, ((z.tmod d + n - 10).tmod d).toNat, 10 + ((z.tmod d + n - 10).tmod d).toNat, by omega, by omega, rfl, h2, h1, rfl, by omega, by omega, by omega, by omega, by omega, by omega⟩
end Go.Proofs.Ytpepgpjiddophaa

/-
  Texts laid together: CheckThrough CheckOwn CheckTree CheckDo PagerPlain BoxL PagerOwn PagerRow PagerWood RingMem RingOwn RingRef RingScan PagerOff PagerMount PagerFormat PagerFormatB PagerFmtP PagerAlive PushT PagerRefFmt DevLike.
-/
import Derived.Test.YtaobfgplheoefaaGreatSfC
import Derived.Test.YtaobfgplheoefaaGreatSfB
import Derived.BigQuiet
import Derived.Deep.RegionHeld3
import Derived.Lib.AppendZeros
import Derived.Test.YtaobfgplheoefaaGreatSfA
import Derived.Deep.SlicePairs
import Derived.Deep.Strs
import Derived.WalkMore
import Derived.Deep.AppendLies
import Derived.Maps.RangeWalk
namespace Go.Proofs.YtaobfgplheoefaaGreat
open Go.RowKit Plain
set_option linter.unusedVariables false
def ClimbsAt (w : World) (h g N : Nat) (v0 v1 v2 v3 v4 : Value) (H : Int → Bool → Option NodeS) (k : Nat) : Prop :=
 ∀ (V : World) (s : ClimbS) (block d : Int) (low high : ByteArray), Below w.heap.size w V → ClimbAt V h g N v0 v1 v2 v3 v4 s → Room s → d = 9 - (k : Int) →
  Calls Tryz.prog 160 #[.pointer (some ⟨h, 0, none⟩), .agg #[.int .i64 block, .int .i64 d, .string low, .string high]] V fun e V' => e = .returned (.int .i64 (climbS H k s block low high).1) ∧ ClimbAt V' h g N v0 v1 v2 v3 v4 (climbS H k s block low high).2 ∧ Turns (fun k => k = h ∨ k = g) V V'
def LoadedN (nl : Bool) (nk nv : List ByteArray) (nc : List Int) (V0 X : World) (q : Nat) (a1 : Option Addr) (k1 d1 : Nat) (a2 : Option Addr) (k2 d2 : Nat) (a3 : Option Addr) (k3 d3 : Nat) : Prop :=
 NodeLo X V0.heap.size q nl a1 k1 d1 a2 k2 d2 a3 k3 d3 nk nv nc ∧ Below V0.heap.size V0 X
theorem ClimbAt.taken {V : World} {h g N : Nat} {v0 v1 v2 v3 v4 : Value} {c : ClimbS} {b : Int} (n : ClimbAt V h g N v0 v1 v2 v3 v4 ⟨c.held.set b.toNat true, c.pairs, c.height, c.blocks⟩) {m : Nat} (hm : m = c.blocks + 1) : ClimbAt (V.setCell ⟨h, 7, none⟩ (.int .i64 m)) h g N v0 v1 v2 v3 v4 (c.take b) := by
 subst hm
 exact n.set7 (c.blocks + 1)
theorem fold_stays {α β : Type} (f : β → α → β) (r : β) (h : ∀ x, f r x = r) : ∀ l : List α, l.foldl f r = r
 | [] => rfl
 | x :: l => by rw [List.foldl_cons, h]; exact fold_stays f r h l
set_option maxRecDepth 20000 in
set_option maxHeartbeats 4000000 in
theorem climb_step (w : World) (h g : Nat) (a a' b : Option Addr) (n c n' c' p f : Nat) (bs ns : List Bool) (ps : List ByteArray) (root gen : Int) (hn : n = bs.length) (hn' : n' = ns.length) (hp : p = ps.length) (hr : rightW bs ns ps root gen = true) (hwh : w.heap.size ≤ h) (hwg : w.heap.size ≤ g) (hB : IsB w a c bs) (hB' : IsB w a' c' ns) (hP : IsS w b f ps) (N : Nat) (hN : N ≤ 9223372036854775807) (k : Nat) (hk : k ≤ 8)
  (IH : ∀ k', k = k' + 1 → ClimbsAt w h g N (.slice a n c) (.slice a' n' c') (.slice b p f) (.int .i64 root) (.int .i64 gen) (holdsS ns ps gen) k') :
  ClimbsAt w h g N (.slice a n c) (.slice a' n' c') (.slice b p f) (.int .i64 root) (.int .i64 gen) (holdsS ns ps gen) k := by
 intro V s block d low high hV D hsm hd
 obtain ⟨W, hW⟩ : ∃ W, W = V.alloc (.cells #[.int .i64 block, .int .i64 d, .string low, .string high] 202) := ⟨_, rfl⟩
 have HW : Below V.heap.size V W := by rw [hW]; exact (Below.refl _ _).alloc (Nat.le_refl _) _
 have BP : Box4 W V.heap.size (.int .i64 block) (.int .i64 d) (.string low) (.string high) := by rw [hW]; exact box4_new _ _ _ _ _ _ rfl
 have hlt : h < V.heap.size := D.lt
 have hltg : g < V.heap.size := D.row.lt
 have T : Turns (fun k => k = h ∨ k = g) V W := Turns.of_below HW
 replace D := D.below HW
 have HB : Below w.heap.size w W := Below.tr hV HW
 obtain ⟨O, hO⟩ : ∃ O, O = holdsS ns ps gen block (d == 1) := ⟨_, rfl⟩
 obtain ⟨⟨nl, nk, nv, nc⟩, hnd⟩ : ∃ nd, nd = nodeO O := ⟨_, rfl⟩
 obtain ⟨E, hE⟩ : ∃ E, E = errO O := ⟨_, rfl⟩
 have cV : ∀ U, Below w.heap.size w U → Calls Tryz.prog 171 #[.agg #[.slice a n c, .slice a' n' c', .slice b p f, .int .i64 root, .int .i64 gen], .int .i64 block, .bool (d == 1)] U fun x V' => Answers U x V' nl nk nv nc E := fun U hU => by
  have := lookLoad_any a a' b n c n' c' p f bs ns ps root gen block (d == 1) U hn hn' hp (hB.below hU) (hB'.below hU) (hP.below hU)
  rw [hr, ← hO] at this
  refine this.mono fun x w' hh => ?_
  have h2 := (loadC_true _ _ _ _).1 hh
  rw [← hnd, ← hE] at h2
  exact h2
 have HO : Hid (O = holdsS ns ps gen block (d == 1) ∧ (nl, nk, nv, nc) = nodeO O ∧ E = errO O ∧ d = 9 - (k : Int)) := ⟨hO, hnd, hE, hd⟩
 have H9 : Hid (∀ b r (nd : NodeS), holdsS ns ps gen b r = some nd → nd.2.1.length ≤ 9) := fun b r nd hh => (holds_len b r nd hh).1
 have stands : Hid (∀ nd, O = some nd → standsN nd.1 nd.2.1 nd.2.2.1 nd.2.2.2 = true ∧ nd.2.1.length ≤ 9) := fun nd hh => by
  rw [hO] at hh
  exact ⟨(rightN_iff.1 (holds_right hh)).1, (holds_len _ _ _ hh).1⟩
 have HIH : Hid (∀ k', k = k' + 1 → ClimbsAt w h g N (.slice a n c) (.slice a' n' c') (.slice b p f) (.int .i64 root) (.int .i64 gen) (holdsS ns ps gen) k') := IH
 have HM : Hid (Room s ∧ k ≤ 8) := ⟨hsm, hk⟩
 obtain ⟨H, hH⟩ : ∃ H, H = holdsS ns ps gen := ⟨_, rfl⟩
 rw [← hH] at HO HIH H9 ⊢
 obtain ⟨R, hRES⟩ : ∃ r, r = climbS H k s block low high := ⟨_, rfl⟩
 rw [← hRES]
 have HRES : Hid (R = climbS H k s block low high) := hRES
 clear hRES
 obtain ⟨⟨p0, p1, p2, p3⟩, -⟩ := id (hW ▸ BP)
 clear hO hnd hE hd IH hn hn' hp hB hB' hP hr hsm hk hH hV
 go_enter Tryz.func160, Tryz.ntmps160
 go_wp2
 rw [← hW]
 clear p0 p1 p2 p3 hW
 obtain ⟨V0, hV0⟩ : ∃ X, X = W.drew := ⟨_, rfl⟩
 have hB0 : Below W.heap.size W V0 := by rw [hV0]; exact (Below.refl _ _).drew
 replace HB := Below.tr HB hB0
 replace BP := BP.below hB0
 replace D := D.below hB0
 replace T := T.tr hB0
 have HV0 : Hid (V0 = W.drew) := hV0
 have hle0 : V.heap.size < V0.heap.size := BP.lt
 clear hV0 hB0 HW
 obtain ⟨⟨p0, p1, p2, p3⟩, -⟩ := id BP
 obtain ⟨x0, x1, x2, x3, x4⟩ := D.wb
 refine (fun (key : Hid (∀ X q a1 k1 d1 a2 k2 d2 a3 k3 d3, LoadedN nl nk nv nc V0 X q a1 k1 d1 a2 k2 d2 a3 k3 d3 → (?prop : World → Nat → Option Addr → Nat → Nat → Option Addr → Nat → Nat → Option Addr → Nat → Nat → Prop) X q a1 k1 d1 a2 k2 d2 a3 k3 d3)) => ?reg) ?kont
 case reg =>
  refine wp_region_noPanic ?_
  refine wp_region_held_drew (S := fun X => (X.cell? ⟨V.heap.size, 0, none⟩ = some (.int .i64 block) ∧ X.cell? ⟨V.heap.size, 1, none⟩ = some (.int .i64 d)) ∧ X.cell? ⟨h, 0, none⟩ = some (.slice a n c) ∧ X.cell? ⟨h, 1, none⟩ = some (.slice a' n' c') ∧ X.cell? ⟨h, 2, none⟩ = some (.slice b p f) ∧ X.cell? ⟨h, 3, none⟩ = some (.int .i64 root) ∧ X.cell? ⟨h, 4, none⟩ = some (.int .i64 gen)) (by kernel_rfl) (by rw [← HV0.out]; exact ⟨⟨p0, p1⟩, x0, x1, x2, x3, x4⟩) (fun hHeld => ?_)
  rw [← HV0.out] at hHeld ⊢
  refine take_at (i := 0) (v := ?_) rfl (by kernel_rfl) (by kernel_rfl) (by kernel_rfl) (fun _ _ _ h => h) (Or.inl ⟨by rfl, ?_⟩) (by assumption) ?_
  rotate_left 1
  ·
   (intro w hSw; (try dsimp only at hSw); go_simp; (try with_reducible rfl))
  try go_frame
  refine take_at (i := 1) (v := ?_) rfl (by kernel_rfl) (by kernel_rfl) (by kernel_rfl) (fun _ _ _ h => h) (Or.inl ⟨by rfl, ?_⟩) (by assumption) ?_
  rotate_left 1
  ·
   (intro w hSw; (try dsimp only at hSw); go_simp; (try with_reducible rfl))
  try go_frame
  refine take_at (i := 2) (v := ?_) rfl (by kernel_rfl) (by kernel_rfl) (by kernel_rfl) (fun _ _ _ h => h) (Or.inl ⟨by rfl, ?_⟩) (by assumption) ?_
  rotate_left 1
  ·
   (intro w hSw; (try dsimp only at hSw); go_simp; (try with_reducible rfl))
  try go_frame
  refine take_at (i := 3) (v := ?_) rfl (by kernel_rfl) (by kernel_rfl) (by kernel_rfl) (fun _ _ _ h => h) (Or.inl ⟨by rfl, ?_⟩) (by assumption) ?_
  rotate_left 1
  ·
   (intro w hSw; (try dsimp only at hSw); go_simp; (try with_reducible rfl))
  try go_frame
  refine take_at (i := 4) (v := ?_) rfl (by kernel_rfl) (by kernel_rfl) (by kernel_rfl) (fun _ _ _ h => h) (Or.inl ⟨by rfl, ?_⟩) (by assumption) ?_
  rotate_left 1
  ·
   (intro w hSw; (try dsimp only at hSw); go_simp; (try with_reducible rfl))
  try go_frame
  refine take_at (i := 5) (v := ?_) rfl (by kernel_rfl) (by kernel_rfl) (by kernel_rfl) (fun _ _ _ h => h) (Or.inl ⟨by rfl, ?_⟩) (by assumption) ?_
  rotate_left 1
  ·
   (intro w hSw; (try dsimp only at hSw); go_simp; (try with_reducible rfl))
  try go_frame
  refine take_at (i := 6) (v := ?_) rfl (by kernel_rfl) (by kernel_rfl) (by kernel_rfl) (fun _ _ _ h => h) (Or.inl ⟨by rfl, ?_⟩) (by assumption) ?_
  rotate_left 1
  ·
   (intro w hSw; (try dsimp only at hSw); go_simp; (try with_reducible rfl))
  try go_frame
  refine take_at (i := 7) (v := ?_) rfl (by kernel_rfl) (by kernel_rfl) (by kernel_rfl) (fun _ _ _ h => h) (Or.inl ⟨by rfl, ?_⟩) (by assumption) ?_
  rotate_left 1
  ·
   (intro w hSw; (try dsimp only at hSw); go_simp; (try with_reducible rfl))
  try go_frame
  refine take_at (i := 8) (v := ?_) rfl (by kernel_rfl) (by kernel_rfl) (by kernel_rfl) (fun _ _ _ h => h) (Or.inl ⟨by rfl, ?_⟩) (by assumption) ?_
  rotate_left 1
  ·
   (intro w hSw; (try dsimp only at hSw); go_simp; (try with_reducible rfl))
  try go_frame
  refine wpAnyH_ready (rs := [9, 13]) (by kernel_rfl) (by simp) ?_
  refine cons_at (i := 9) rfl (fun K hK => ?callFirst) (cons_at (i := 13) rfl (fun K hK => ?allocFirst) AllReadyH.nil)
  case callFirst =>
   go_simp
   go_at_call 171
   refine (cV _ HB).mono ?_
   rintro y t ⟨k1, a1, d1, k2, a2, d2, k3, a3, d3, rfl, e1, e2, e3, i1, i2, i3, j1, j2, j3, hb⟩
   have EE : Hid (k1 = nk.length ∧ k2 = nv.length ∧ k3 = nc.length) := ⟨e1, e2, e3⟩
   clear e1 e2 e3
   have hA := (Below.refl t.heap.size t).alloc (Nat.le_refl _) (.cells #[.bool nl, .slice a1 k1 d1, .slice a2 k2 d2, .slice a3 k3 d3] 205)
   have F : LoadedN nl nk nv nc V0 (t.alloc (.cells #[.bool nl, .slice a1 k1 d1, .slice a2 k2 d2, .slice a3 k3 d3] 205)) t.heap.size a1 k1 d1 a2 k2 d2 a3 k3 d3 := ⟨nodeLo_new t _ _ nl rfl hb.size EE.out.1 EE.out.2.1 EE.out.2.2 i1 i2 i3 j1 j2 j3, Below.tr hb hA⟩
   have hs : ∀ U, Below V0.heap.size V0 U → (U.cell? ⟨V.heap.size, 0, none⟩ = some (.int .i64 block) ∧ U.cell? ⟨V.heap.size, 1, none⟩ = some (.int .i64 d)) ∧ U.cell? ⟨h, 0, none⟩ = some (.slice a n c) ∧ U.cell? ⟨h, 1, none⟩ = some (.slice a' n' c') ∧ U.cell? ⟨h, 2, none⟩ = some (.slice b p f) ∧ U.cell? ⟨h, 3, none⟩ = some (.int .i64 root) ∧ U.cell? ⟨h, 4, none⟩ = some (.int .i64 gen) := fun U hU => ⟨⟨cell_below hU p0, cell_below hU p1⟩, cell_below hU x0, cell_below hU x1, cell_below hU x2, cell_below hU x3, cell_below hU x4⟩
   refine hK.out _ _ ?_ (fun hHeld2 => ?_)
   ·
    exact hs _ hb
   clear hK K
   refine take_at (i := 10) (v := ?_) rfl (by kernel_rfl) (by kernel_rfl) (by kernel_rfl) (fun _ _ _ h => h) (Or.inl ⟨by rfl, ?_⟩) (by assumption) ?_
   rotate_left 1
   ·
    (intro w hSw; (try dsimp only at hSw); go_simp; (try with_reducible rfl))
   try go_frame
   refine take_at (i := 11) (v := ?_) rfl (by kernel_rfl) (by kernel_rfl) (by kernel_rfl) (fun _ _ _ h => h) (Or.inl ⟨by rfl, ?_⟩) (by assumption) ?_
   rotate_left 1
   ·
    (intro w hSw; (try dsimp only at hSw); go_simp; (try with_reducible rfl))
   try go_frame
   refine take_at (i := 12) (v := ?_) rfl (by kernel_rfl) (by kernel_rfl) (by kernel_rfl) (fun _ _ _ h => h) (Or.inl ⟨by rfl, ?_⟩) (by assumption) ?_
   rotate_left 1
   ·
    (intro w hSw; (try dsimp only at hSw); go_simp; (try with_reducible rfl))
   try go_frame
   refine wpAnyH_ready (rs := [13]) (by kernel_rfl) (by simp) ?_
   refine cons_at (i := 13) rfl (fun K hK => ?_) AllReadyH.nil
   go_simp
   refine hK.out _ _ ?_ (fun hHeld3 => ?_)
   ·
    exact hs _ (Below.tr hb ((Below.refl _ _).alloc (Nat.le_refl _) _))
   clear hK K
   try go_frame
   refine wpAnyH_ready (rs := [14]) (by kernel_rfl) (by simp) ?_
   refine cons_at (i := 14) rfl (fun K hK => ?_) AllReadyH.nil
   go_simp
   refine hK.out _ _ ?_ (fun hHeld4 => ?_)
   ·
    exact hs _ (Below.tr hb hA)
   clear hK K
   try go_frame
   clear hHeld hHeld2 hHeld3
   refine take_at (i := 15) (v := ?_) rfl (by kernel_rfl) (by kernel_rfl) (by kernel_rfl) (fun _ _ _ h => h) (Or.inl ⟨by rfl, ?_⟩) (by assumption) ?_
   rotate_left 1
   ·
    (intro w hSw; (try dsimp only at hSw); go_simp; (try with_reducible rfl))
   try go_frame
   refine wpAnyH_done (by kernel_rfl) ?_ _
   refine NoPanic.normal ?_
   clear hHeld4 hA hs
   generalize t.alloc (.cells #[.bool nl, .slice a1 k1 d1, .slice a2 k2 d2, .slice a3 k3 d3] 205) = X at F ⊢
   generalize t.heap.size = q at F ⊢
   exact key.out X q a1 k1 d1 a2 k2 d2 a3 k3 d3 F
  case allocFirst =>
   go_simp
   have hA := (Below.refl V0.heap.size V0).alloc (Nat.le_refl _) (.cells #[.bool false, .slice none 0 0, .slice none 0 0, .slice none 0 0] 205)
   have bZ := box4_new V0 (.bool false) (.slice none 0 0) (.slice none 0 0) (.slice none 0 0) 205 rfl
   have hs : ∀ U, Below V0.heap.size V0 U → (U.cell? ⟨V.heap.size, 0, none⟩ = some (.int .i64 block) ∧ U.cell? ⟨V.heap.size, 1, none⟩ = some (.int .i64 d)) ∧ U.cell? ⟨h, 0, none⟩ = some (.slice a n c) ∧ U.cell? ⟨h, 1, none⟩ = some (.slice a' n' c') ∧ U.cell? ⟨h, 2, none⟩ = some (.slice b p f) ∧ U.cell? ⟨h, 3, none⟩ = some (.int .i64 root) ∧ U.cell? ⟨h, 4, none⟩ = some (.int .i64 gen) := fun U hU => ⟨⟨cell_below hU p0, cell_below hU p1⟩, cell_below hU x0, cell_below hU x1, cell_below hU x2, cell_below hU x3, cell_below hU x4⟩
   refine hK.out _ _ ?_ (fun hHeld2 => ?_)
   ·
    exact hs _ hA
   clear hK K
   try go_frame
   refine wpAnyH_ready (rs := [9]) (by kernel_rfl) (by simp) ?_
   refine cons_at (i := 9) rfl (fun K hK => ?_) AllReadyH.nil
   go_simp
   go_at_call 171
   refine (cV _ (Below.tr HB hA)).mono ?_
   rintro y t ⟨k1, a1, d1, k2, a2, d2, k3, a3, d3, rfl, e1, e2, e3, i1, i2, i3, j1, j2, j3, hb⟩
   have EE : Hid (k1 = nk.length ∧ k2 = nv.length ∧ k3 = nc.length) := ⟨e1, e2, e3⟩
   clear e1 e2 e3
   have hts : V0.heap.size + 1 ≤ t.heap.size := by have := hb.size; simp at this; omega
   replace bZ := bZ.below hb
   obtain ⟨⟨z0, z1, z2, z3⟩, y0, y1, y2, y3⟩ := id bZ
   refine hK.out _ _ ?_ (fun hHeld3 => ?_)
   ·
    exact hs _ (Below.tr hA hb)
   clear hK K
   refine take_at (i := 10) (v := ?_) rfl (by kernel_rfl) (by kernel_rfl) (by kernel_rfl) (fun _ _ _ h => h) (Or.inl ⟨by rfl, ?_⟩) (by assumption) ?_
   rotate_left 1
   ·
    (intro w hSw; (try dsimp only at hSw); go_simp; (try with_reducible rfl))
   try go_frame
   refine take_at (i := 11) (v := ?_) rfl (by kernel_rfl) (by kernel_rfl) (by kernel_rfl) (fun _ _ _ h => h) (Or.inl ⟨by rfl, ?_⟩) (by assumption) ?_
   rotate_left 1
   ·
    (intro w hSw; (try dsimp only at hSw); go_simp; (try with_reducible rfl))
   try go_frame
   refine take_at (i := 12) (v := ?_) rfl (by kernel_rfl) (by kernel_rfl) (by kernel_rfl) (fun _ _ _ h => h) (Or.inl ⟨by rfl, ?_⟩) (by assumption) ?_
   rotate_left 1
   ·
    (intro w hSw; (try dsimp only at hSw); go_simp; (try with_reducible rfl))
   try go_frame
   refine wpAnyH_ready (rs := [14]) (by kernel_rfl) (by simp) ?_
   refine cons_at (i := 14) rfl (fun K hK => ?_) AllReadyH.nil
   go_simp
   have T4 := turns_put4 t V0.heap.size (.bool nl) (.slice a1 k1 d1) (.slice a2 k2 d2) (.slice a3 k3 d3)
   have hB4 : Below V0.heap.size V0 ((((t.setCell ⟨V0.heap.size, 0, none⟩ (.bool nl)).setCell ⟨V0.heap.size, 1, none⟩ (.slice a1 k1 d1)).setCell ⟨V0.heap.size, 2, none⟩ (.slice a2 k2 d2)).setCell ⟨V0.heap.size, 3, none⟩ (.slice a3 k3 d3)) := below_put4 (Below.tr hA hb) (Nat.le_refl _) _ _ _ _
   have F : LoadedN nl nk nv nc V0 ((((t.setCell ⟨V0.heap.size, 0, none⟩ (.bool nl)).setCell ⟨V0.heap.size, 1, none⟩ (.slice a1 k1 d1)).setCell ⟨V0.heap.size, 2, none⟩ (.slice a2 k2 d2)).setCell ⟨V0.heap.size, 3, none⟩ (.slice a3 k3 d3)) V0.heap.size a1 k1 d1 a2 k2 d2 a3 k3 d3 :=
    ⟨⟨bZ.put _ _ _ _, EE.out.1, EE.out.2.1, EE.out.2.2, i1.turns T4 (fun x hx e => by have := j1 x hx; simp at this; omega), i2.turns T4 (fun x hx e => by have := j2 x hx; simp at this; omega), i3.turns T4 (fun x hx e => by have := j3 x hx; simp at this; omega), Nat.le_refl _, j1.mono (by simp), j2.mono (by simp), j3.mono (by simp)⟩, hB4⟩
   refine hK.out _ _ ?_ (fun hHeld4 => ?_)
   ·
    exact hs _ hB4
   clear hK K
   try go_frame
   clear hHeld hHeld2 hHeld3
   refine take_at (i := 15) (v := ?_) rfl (by kernel_rfl) (by kernel_rfl) (by kernel_rfl) (fun _ _ _ h => h) (Or.inl ⟨by rfl, ?_⟩) (by assumption) ?_
   rotate_left 1
   ·
    (intro w hSw; (try dsimp only at hSw); go_simp; (try with_reducible rfl))
   try go_frame
   refine wpAnyH_done (by kernel_rfl) ?_ _
   refine NoPanic.normal ?_
   exact key.out _ _ a1 k1 d1 a2 k2 d2 a3 k3 d3 F
 case kont =>
  intro X q a1 k1 d1 a2 k2 d2 a3 k3 d3 F
  obtain ⟨NL, hBX⟩ := F
  replace HB := Below.tr HB hBX
  replace BP := BP.below hBX
  replace D := D.below hBX
  replace T := T.tr hBX
  obtain ⟨⟨n0, n1, n2, n3⟩, -⟩ := id NL.box
  clear p0 p1 p2 p3 x0 x1 x2 x3 x4 cV HV0
  obtain ⟨⟨p0, p1, p2, p3⟩, -⟩ := id BP
  cases O with
  | none =>
   obtain ⟨hO, hnd, rfl, hd⟩ := HO.out
   cases hnd
   have hR : Hid (R = (81, s)) := by
    show _ = _
    rw [HRES.out]
    cases k with
    | zero => rfl
    | succ k =>
     have e1 : (d == 1) = decide (k = 7) := by rw [Bool.eq_iff_iff]; simp; omega
     rw [climbS, ← e1, ← hO]
   clear hO hd HO stands HM HIH
   go_wp2
   go_ret
   rw [hR.out]
   exact ⟨rfl, D, T⟩
  | some nd =>
   obtain ⟨hO, hnd, rfl, hd⟩ := HO.out
   cases hnd
   obtain ⟨hst, h9⟩ := stands.out _ rfl
   replace h9 : nk.length ≤ 9 := h9
   cases k with
   | zero =>
    have hd9 : (8 : Int) < d := by omega
    have hR : Hid (R = (81, s)) := HRES.out
    clear hO hd HO stands HM HIH
    go_wp2
    go_ret
    rw [hR.out]
    exact ⟨rfl, D, T⟩
   | succ k =>
    have hd9 : ¬ (8 : Int) < d := by omega
    have hd8 : 8 - (k : Int) = d := by omega
    have hd10 : d + 1 = 9 - (k : Int) := by omega
    have e1 : (d == 1) = decide (k = 7) := by rw [Bool.eq_iff_iff]; simp; omega
    have hR : R = if withinK nk low high = true ∧ 0 ≤ block ∧ block < s.held.length ∧ atB s.held block.toNat = false then (if nl = true then leafC nk.length d (s.take block) else (kidsT low high nk nc).foldl (fun (r : Int × ClimbS) (x : Int × ByteArray × ByteArray) => if r.1 = 0 then climbS H k r.2 x.1 x.2.1 x.2.2 else r) (0, s.take block)) else (81, s) := by
     rw [HRES.out, climbS, ← e1, ← hO, ← hd8]
    have cI := placeWithin_any block d low high a1 k1 d1 nk X NL.e1 NL.i1
    have hAll : ∀ U, Below X.heap.size X U → ClimbAt U h g N (.slice a n c) (.slice a' n' c') (.slice b p f) (.int .i64 root) (.int .i64 gen) s → Calls Tryz.prog 129 #[.pointer (some ⟨h, 0, none⟩), .slice (some ⟨U.heap.size, 0, none⟩) 1 1] (U.alloc (.cells #[.int .i64 block] 3)) fun e V' => e = .returned (.bool (holdL s.held [block]).1) ∧ ClimbAt V' h g N (.slice a n c) (.slice a' n' c') (.slice b p f) (.int .i64 root) (.int .i64 gen) ⟨(holdL s.held [block]).2, s.pairs, s.height, s.blocks⟩ ∧ Turns (fun k => k = g) U V' := fun U hU hD =>
     (hold_any (U.alloc (.cells #[.int .i64 block] 3)) h g N _ _ _ _ _ s (some ⟨U.heap.size, 0, none⟩) 1 1 [block] rfl (isI_one U block) (fun _ x hx e => by cases hx; have h1 : U.heap.size = g := e; have h2 : X.heap.size ≤ U.heap.size := hU.size; have h3 := hBX.size; omega) (hD.below ((Below.refl _ _).alloc (Nat.le_refl _) _)) hN).mono fun e V' hh => ⟨hh.1, hh.2.1, (Turns.alloc (Turns.refl _ _) _).trans hh.2.2⟩
    have hh1 : holdL s.held [block] = if 0 ≤ block ∧ block < s.held.length ∧ atB s.held block.toNat = false then (true, s.held.set block.toNat true) else (false, s.held) := by
     rw [holdL]
     split
     ·
      rfl
     ·
      rfl
    rw [hh1] at hAll
    clear hh1 HRES
    cases hw : withinK nk low high with
    | false =>
     rw [hw] at cI
     have HF : Hid (R = (81, s)) := by show _ = _; rw [hR, hw, if_neg (show ¬ (false = true ∧ 0 ≤ block ∧ block < s.held.length ∧ atB s.held block.toNat = false) from fun hh => by cases hh.1)]
     clear hR hO hd HO stands HM HIH hAll hw hd8 hd10 e1 H9
     go_wp2_with (go_at_call 172; refine cI.mono ?_; rintro y t ⟨rfl, hb⟩; replace D := D.below hb; replace T := T.tr hb)
     go_ret
     rw [HF.out]
     exact ⟨rfl, D, T⟩
    | true =>
     rw [hw] at cI
     by_cases hc : 0 ≤ block ∧ block < s.held.length ∧ atB s.held block.toNat = false
     ·
      rw [hw, if_pos ⟨rfl, hc⟩] at hR
      rw [if_pos hc] at hAll
      obtain ⟨hrt, hr9⟩ := room_take HM.out.1 hc.1 hc.2.1 hc.2.2
      have hpr : s.pairs ≤ 1000000 := by have := hrt.1; have := hrt.2; omega
      obtain ⟨m, hm⟩ : ∃ m, m = s.blocks + 1 := ⟨_, rfl⟩
      have Hm : Hid (m = s.blocks + 1) := hm
      have hbl : IntKind.i64.wrap ((s.blocks : Int) + 1) = (m : Int) := by have := hrt.1; have e2 : (s.take block).blocks = s.blocks + 1 := rfl; rw [IntKind.wrap_i64]; omega
      have HRT : Hid (Room (s.take block)) := hrt
      clear hw hc hd8 e1 hrt hr9 hm
      cases nl with
      | true =>
       have HF : Hid (R = leafC nk.length d (s.take block)) := by show _ = _; rw [hR, if_pos rfl]
       clear hR
       have cL : ∀ U, ClimbAt U h g N (.slice a n c) (.slice a' n' c') (.slice b p f) (.int .i64 root) (.int .i64 gen) (s.take block) → Calls Tryz.prog 173 #[.pointer (some ⟨h, 0, none⟩), .agg #[.bool true, .slice a1 k1 d1, .slice a2 k2 d2, .slice a3 k3 d3], .int .i64 d] U fun e V' => e = .returned (.int .i64 (leafC nk.length d (s.take block)).1) ∧ ClimbAt V' h g N (.slice a n c) (.slice a' n' c') (.slice b p f) (.int .i64 root) (.int .i64 gen) (leafC nk.length d (s.take block)).2 ∧ Turns (fun k => k = h) U V' := fun U hD => by
        have := leaf_any U h g N _ _ _ _ _ (s.take block) true a1 a2 a3 k1 d1 k2 d2 k3 d3 d hD hpr (by rw [NL.e1]; omega)
        rw [NL.e1] at this
        rw [NL.e1]
        exact this
       clear hO hd HO stands HM HIH hd10 H9 h9 hst
       go_wp2_with (first
        | (go_at_call 172; refine cI.mono ?_; rintro y t ⟨rfl, hb⟩; replace HB := Below.tr HB hb; replace D := D.below hb; replace T := T.tr hb; replace BP := BP.below hb; replace NL := NL.stay (Turns.of_below hb); clear n0 n1 n2 n3 p0 p1 p2 p3; obtain ⟨⟨n0, n1, n2, n3⟩, -⟩ := id NL.box; obtain ⟨⟨p0, p1, p2, p3⟩, -⟩ := id BP)
        | (go_at_call 129; refine (hAll _ hb D).mono ?_; rintro y t2 ⟨rfl, D2, T2⟩; have q7 := D2.c7; have qf7 := D2.f7; have D3 := D2.taken Hm.out; have T3 : Turns (fun k => k = h ∨ k = g) t (t2.setCell ⟨h, 7, none⟩ (.int .i64 m)) := (T2.mono fun k hk => .inr hk).setCell (p := ⟨h, 7, none⟩) (.inl rfl) _; replace T := T.trans T3; replace HB := Below.turns HB T3 (fun i hi => (by rcases hi with e | e <;> omega)); replace NL := NL.stay (T3.mono fun k hk => (by rcases hk with e | e <;> omega)); replace BP := BP.turns T3 (fun hk => (by rcases hk with e | e <;> omega)); clear n0 n1 n2 n3 p0 p1 p2 p3 D T3 T2 hb D2; obtain ⟨⟨n0, n1, n2, n3⟩, -⟩ := id NL.box; obtain ⟨⟨p0, p1, p2, p3⟩, -⟩ := id BP)
        | (go_at_call 173; refine (cL _ D3).mono ?_; rintro y t4 ⟨rfl, D4, T4⟩))
       go_ret
       rw [HF.out]
       exact ⟨rfl, D4, T.trans (T4.mono fun k hk => .inl hk)⟩
      | false =>
       rw [if_neg (show ¬ false = true by decide)] at hR
       have HRR : Hid (R = ((kidsT low high nk nc).drop 0).foldl (fun (r : Int × ClimbS) (x : Int × ByteArray × ByteArray) => if r.1 = 0 then climbS H k r.2 x.1 x.2.1 x.2.2 else r) (0, s.take block)) := hR
       have hsh := shape_inner.1 (standsN_iff.1 hst).2.2.2.2.2
       have cT := HIH.out k rfl
       have HE : Hid (k1 = nk.length ∧ k3 = nc.length ∧ nc.length = nk.length + 1 ∧ d + 1 = 9 - (k : Int) ∧ (0 ≤ d ∧ d ≤ 100)) := ⟨NL.e1, NL.e3, hsh.2.2, hd10, (by have := HM.out.2; omega)⟩
       have mk3 : k3 ≤ 9223372036854775807 := by rw [NL.e3]; exact Nat.le_trans NL.i3.1 NL.i3.2.1
       clear hR hO hd HO stands HM HIH hd10 h9 hst hsh
       go_wp2_with (first
        | (go_at_call 172; refine cI.mono ?_; rintro y t ⟨rfl, hb⟩; replace HB := Below.tr HB hb; replace D := D.below hb; replace T := T.tr hb; replace BP := BP.below hb; replace NL := NL.stay (Turns.of_below hb); clear n0 n1 n2 n3 p0 p1 p2 p3; obtain ⟨⟨n0, n1, n2, n3⟩, -⟩ := id NL.box; obtain ⟨⟨p0, p1, p2, p3⟩, -⟩ := id BP)
        | (go_at_call 129; refine (hAll _ hb D).mono ?_; rintro y t2 ⟨rfl, D2, T2⟩; have q7 := D2.c7; have qf7 := D2.f7; have D3 := D2.taken Hm.out; have T3 : Turns (fun k => k = h ∨ k = g) t (t2.setCell ⟨h, 7, none⟩ (.int .i64 m)) := (T2.mono fun k hk => .inr hk).setCell (p := ⟨h, 7, none⟩) (.inl rfl) _; replace T := T.trans T3; replace HB := Below.turns HB T3 (fun i hi => (by rcases hi with e | e <;> omega)); replace NL := NL.stay (T3.mono fun k hk => (by rcases hk with e | e <;> omega)); replace BP := BP.turns T3 (fun hk => (by rcases hk with e | e <;> omega)); clear n0 n1 n2 n3 p0 p1 p2 p3 D T3 T2 hb D2; obtain ⟨⟨n0, n1, n2, n3⟩, -⟩ := id NL.box; obtain ⟨⟨p0, p1, p2, p3⟩, -⟩ := id BP))
       have D := D3
       clear D3 q7 qf7
       generalize t2.setCell ⟨h, 7, none⟩ (.int .i64 m) = X3 at *
       have HN : Hid (NodeLo X3 V0.heap.size q false a1 k1 d1 a2 k2 d2 a3 k3 d3 nk nv nc) := NL
       have HBP : Hid (Box4 X3 V.heap.size (.int .i64 block) (.int .i64 d) (.string low) (.string high)) := BP
       go_loopw [62] (fun v wr => ∃ (j : Nat) (s2 : ClimbS), j ≤ k3 ∧ v = .int .i64 j ∧ (Room s2 ∧ R = ((kidsT low high nk nc).drop j).foldl (fun (r : Int × ClimbS) (x : Int × ByteArray × ByteArray) => if r.1 = 0 then climbS H k r.2 x.1 x.2.1 x.2.2 else r) (0, s2)) ∧ ClimbAt wr h g N (.slice a n c) (.slice a' n' c') (.slice b p f) (.int .i64 root) (.int .i64 gen) s2 ∧ Turns (fun k => k = h ∨ k = g) V wr ∧ Turns (fun k => k = h ∨ k = g) X3 wr ∧ Below w.heap.size w wr) (fun v _ => k3 - (intOf v).toNat)
       case atStart => exact ⟨0, s.take block, by omega, rfl, ⟨HRT.out, HRR.out⟩, D, T, Turns.refl _ _, HB⟩
       case round =>
        clear D T HB n0 n1 n2 n3 p0 p1 p2 p3 NL BP
        obtain ⟨j, s2, hj, rfl, hs2, D, T, LO, HB⟩ := hrel
        have HS2 : Hid (Room s2 ∧ R = ((kidsT low high nk nc).drop j).foldl (fun (r : Int × ClimbS) (x : Int × ByteArray × ByteArray) => if r.1 = 0 then climbS H k r.2 x.1 x.2.1 x.2.2 else r) (0, s2)) := hs2
        clear hs2
        have NL := HN.out.stay (LO.mono fun k hk => by rcases hk with e | e <;> omega)
        have BP := HBP.out.turns LO (fun hk => by rcases hk with e | e <;> omega)
        obtain ⟨⟨n0, n1, n2, n3⟩, -⟩ := id NL.box
        obtain ⟨⟨p0, p1, p2, p3⟩, -⟩ := id BP
        by_cases hlt3 : j < k3
        ·
         have hlt3' : (j : Int) < k3 := by omega
         obtain ⟨kb, hkb⟩ : ∃ x, nc[j]? = some x := ⟨_, List.getElem?_eq_getElem (by have := HE.out; omega)⟩
         obtain ⟨x, hx⟩ : ∃ x, x = kidFrom low nk j := ⟨_, rfl⟩
         obtain ⟨z, hz⟩ : ∃ z, z = kidTo high nk j := ⟨_, rfl⟩
         have cD : Calls Tryz.prog 174 #[.agg #[.int .i64 block, .int .i64 d, .string low, .string high], .agg #[.bool false, .slice a1 k1 d1, .slice a2 k2 d2, .slice a3 k3 d3], .int .i64 j] wr fun x' w' => x' = .returned (.agg #[.int .i64 kb, .int .i64 (d + 1), .string x, .string z]) ∧ Below wr.heap.size wr w' := by have := placeBelow_any block d low high false a1 a2 a3 k1 d1 k2 d2 k3 d3 nk nv nc j kb wr NL.e1 NL.e3 NL.i1 NL.i3 hkb HE.out.2.2.1 HE.out.2.2.2.2; rw [← hx, ← hz] at this; exact this
         obtain ⟨⟨e, s3⟩, hes⟩ : ∃ r, r = climbS H k s2 kb x z := ⟨_, rfl⟩
         have cT2 : ∀ U, Below w.heap.size w U → ClimbAt U h g N (.slice a n c) (.slice a' n' c') (.slice b p f) (.int .i64 root) (.int .i64 gen) s2 → Calls Tryz.prog 160 #[.pointer (some ⟨h, 0, none⟩), .agg #[.int .i64 kb, .int .i64 (d + 1), .string x, .string z]] U fun e' V' => e' = .returned (.int .i64 e) ∧ ClimbAt V' h g N (.slice a n c) (.slice a' n' c') (.slice b p f) (.int .i64 root) (.int .i64 gen) s3 ∧ Turns (fun k => k = h ∨ k = g) U V' := fun U hU hD => by have := cT U s2 kb (d + 1) x z hU hD HS2.out.1 HE.out.2.2.2.1; rw [← hes] at this; exact this
         have hs3 : Room s3 := by have := room_climb H9.out k s2 kb x z HS2.out.1; rw [← hes] at this; exact this
         have hdrop : R = ((kidsT low high nk nc).drop (j + 1)).foldl (fun (r : Int × ClimbS) (x : Int × ByteArray × ByteArray) => if r.1 = 0 then climbS H k r.2 x.1 x.2.1 x.2.2 else r) (e, s3) := by
          have hk1 : (kidsT low high nk nc)[j]? = some (kb, x, z) := by rw [hx, hz]; exact kidsT_get hkb
          obtain ⟨hl, hv⟩ := List.getElem?_eq_some_iff.1 hk1
          rw [HS2.out.2, List.drop_eq_getElem_cons hl, hv, List.foldl_cons, if_pos rfl, ← hes]
         have HD2 : Hid (Room s3 ∧ R = ((kidsT low high nk nc).drop (j + 1)).foldl (fun (r : Int × ClimbS) (x : Int × ByteArray × ByteArray) => if r.1 = 0 then climbS H k r.2 x.1 x.2.1 x.2.2 else r) (e, s3)) := ⟨hs3, hdrop⟩
         clear hs3 hdrop hes hx hz hkb cT HS2 NL BP
         by_cases he : e = 0
         ·
          subst he
          go_wp2_with (first
           | (go_at_call 174; refine cD.mono ?_; rintro y t1 ⟨rfl, hb⟩; replace D := D.below hb; replace HB := Below.tr HB hb; replace T := T.tr hb; replace LO := LO.tr hb; clear n0 n1 n2 n3 p0 p1 p2 p3 hb)
           | (go_at_call 160; refine (cT2 _ HB D).mono ?_; rintro y t2 ⟨rfl, D3, T3⟩; replace HB := Below.turns HB T3 (fun i hi => (by rcases hi with e | e <;> omega)); replace D := D3; replace T := T.trans T3; replace LO := LO.trans T3; clear D3 T3))
          go_roundw
          case rel => exact ⟨j + 1, s3, by omega, by go_num, HD2.out, D, T, LO, HB⟩
          case measure => simp [intOf]; omega
         ·
          have he' : (e != 0) = true := by simpa using he
          have hRe : Hid (R = (e, s3)) := by
           show _ = _
           rw [HD2.out.2]
           exact fold_stays _ _ (fun y => if_neg he) _
          go_wp2_with (first
           | (go_at_call 174; refine cD.mono ?_; rintro y t1 ⟨rfl, hb⟩; replace D := D.below hb; replace HB := Below.tr HB hb; replace T := T.tr hb; replace LO := LO.tr hb; clear n0 n1 n2 n3 p0 p1 p2 p3 hb)
           | (go_at_call 160; refine (cT2 _ HB D).mono ?_; rintro y t2 ⟨rfl, D3, T3⟩; replace T := T.trans T3; clear T3))
          go_ret
          rw [hRe.out]
          exact ⟨rfl, D3, T⟩
        ·
         obtain rfl : k3 = j := by omega
         have hj3 : ¬ (k3 : Int) < k3 := by omega
         have hRe : Hid (R = (0, s2)) := by
          show _ = _
          rw [HS2.out.2, List.drop_eq_nil_of_le (by rw [kidsT_length]; have := HE.out; omega)]
          rfl
         go_wp2
         go_ret
         rw [hRe.out]
         exact ⟨rfl, D, T⟩
     ·
      have HF : Hid (R = (81, s)) := by show _ = _; rw [hR, if_neg (fun hh => hc hh.2)]
      rw [if_neg hc] at hAll
      clear hR hO hd HO stands HM HIH hw hc hd8 hd10 e1 H9
      go_wp2_with (first
       | (go_at_call 172; refine cI.mono ?_; rintro y t ⟨rfl, hb⟩; replace HB := Below.tr HB hb; replace D := D.below hb; replace T := T.tr hb; replace BP := BP.below hb; replace NL := NL.stay (Turns.of_below hb); clear n0 n1 n2 n3 p0 p1 p2 p3; obtain ⟨⟨n0, n1, n2, n3⟩, -⟩ := id NL.box; obtain ⟨⟨p0, p1, p2, p3⟩, -⟩ := id BP)
       | (go_at_call 129; refine (hAll _ hb D).mono ?_; rintro y t2 ⟨rfl, D2, T2⟩))
      go_ret
      rw [HF.out]
      exact ⟨rfl, D2, T.trans (T2.mono fun k hk => .inr hk)⟩
end Go.Proofs.YtaobfgplheoefaaGreat
namespace Go.Proofs.YtaobfgplheoefaaGreat
namespace Plain
def climbedS (ns : List Bool) (ps : List ByteArray) (root gen : Int) : Int × ClimbS :=
 if root = 0 then (0, ⟨freshL ns.length, 0, 0, 0⟩) else climbS (holdsS ns ps gen) 8 ⟨freshL ns.length, 0, 0, 0⟩ root ⟨#[]⟩ ⟨#[]⟩
theorem howN_fresh (n : Nat) (l : List Bool) : howN (freeB [] l) n ≤ n := howN_le _ _
end Plain
open Go.RowKit Plain
set_option linter.unusedVariables false
theorem climbs_any (w : World) (h g : Nat) (a a' b : Option Addr) (n c n' c' p f : Nat) (bs ns : List Bool) (ps : List ByteArray) (root gen : Int) (hn : n = bs.length) (hn' : n' = ns.length) (hp : p = ps.length) (hr : rightW bs ns ps root gen = true) (hwh : w.heap.size ≤ h) (hwg : w.heap.size ≤ g) (hB : IsB w a c bs) (hB' : IsB w a' c' ns) (hP : IsS w b f ps) (N : Nat) (hN : N ≤ 9223372036854775807) : ∀ (k : Nat), k ≤ 8 →
  ClimbsAt w h g N (.slice a n c) (.slice a' n' c') (.slice b p f) (.int .i64 root) (.int .i64 gen) (holdsS ns ps gen) k
 | 0, hk => climb_step w h g a a' b n c n' c' p f bs ns ps root gen hn hn' hp hr hwh hwg hB hB' hP N hN 0 hk (fun k' e => by cases e)
 | k + 1, hk => climb_step w h g a a' b n c n' c' p f bs ns ps root gen hn hn' hp hr hwh hwg hB hB' hP N hN (k + 1) hk (fun k' e => by cases e; exact climbs_any w h g a a' b n c n' c' p f bs ns ps root gen hn hn' hp hr hwh hwg hB hB' hP N hN k (by omega))
theorem climbAt_new (W : World) (n : Nat) {Z : Array Value} (hZ : Z = (List.replicate n (Value.bool false)).toArray) (hn : n ≤ maxLen) (v0 v1 v2 v3 v4 : Value) (t : TypeId) {g h : Nat} (hg : g = W.heap.size) (hh : h = W.heap.size + 1) : ClimbAt ((W.alloc (.cells Z 4)).alloc (.cells #[v0, v1, v2, v3, v4, .int .i64 0, .int .i64 0, .int .i64 0, .slice (some ⟨g, 0, none⟩) n n] t)) h g n v0 v1 v2 v3 v4 ⟨usedL n 0, 0, 0, 0⟩ := by
 have hr := (RowT.new W n hZ hg hn).below ((Below.refl _ _).alloc (Nat.le_refl _) (.cells #[v0, v1, v2, v3, v4, .int .i64 0, .int .i64 0, .int .i64 0, .slice (some ⟨g, 0, none⟩) n n] t))
 have hs : (W.alloc (.cells Z 4)).heap.size = h := by rw [hh]; simp
 have hne : h ≠ g := by omega
 generalize W.alloc (.cells Z 4) = U at *
 clear hh
 subst hs
 refine ⟨⟨World.cell?_alloc_at _ _ _ _ rfl, World.cell?_alloc_at _ _ _ _ rfl, World.cell?_alloc_at _ _ _ _ rfl, World.cell?_alloc_at _ _ _ _ rfl, World.cell?_alloc_at _ _ _ _ rfl⟩, World.cell?_alloc_at _ _ _ _ rfl, World.cell?_alloc_at _ _ _ _ rfl, World.cell?_alloc_at _ _ _ _ rfl, World.cell?_alloc_at _ _ _ _ rfl, ?_, ?_, ?_, by rw [usedL_zero]; exact hr, usedL_length _ _, hne⟩
 ·
  exact (World.frozen?_alloc_mark U _ _ _ _ 5).trans (by simp)
 ·
  exact (World.frozen?_alloc_mark U _ _ _ _ 6).trans (by simp)
 ·
  exact (World.frozen?_alloc_mark U _ _ _ _ 7).trans (by simp)
set_option maxRecDepth 20000 in
set_option maxHeartbeats 2000000 in
theorem climbed_no (a a' b : Option Addr) (n c n' c' p f : Nat) (bs ns : List Bool) (ps : List ByteArray) (root gen : Int) (w : World) (hn : n = bs.length) (hn' : n' = ns.length) (hp : p = ps.length) (hB : IsB w a c bs) (hB' : IsB w a' c' ns) (hP : IsS w b f ps) (hr : rightW bs ns ps root gen = false) :
  Calls Tryz.prog 128 #[.agg #[.slice a n c, .slice a' n' c', .slice b p f, .int .i64 root, .int .i64 gen]] w fun x w' => x = .returned (.tuple #[.pointer none, .int .i64 1]) ∧ Below w.heap.size w w' := by
 obtain ⟨W, hW⟩ : ∃ W, W = w.alloc (.cells #[.slice a n c, .slice a' n' c', .slice b p f, .int .i64 root, .int .i64 gen] 40) := ⟨_, rfl⟩
 have HB : Below w.heap.size w W := by rw [hW]; exact (Below.refl _ _).alloc (Nat.le_refl _) _
 have BW : WoodBox W w.heap.size (.slice a n c) (.slice a' n' c') (.slice b p f) (.int .i64 root) (.int .i64 gen) := by rw [hW]; exact woodBox_new _ _ _ _ _ _ _ rfl
 have cR := lookRight_any a a' b n c n' c' p f bs ns ps root gen W hn hn' hp (hB.below HB) (hB'.below HB) (hP.below HB)
 rw [hr] at cR
 obtain ⟨x0, x1, x2, x3, x4⟩ := id (hW ▸ BW)
 clear hn hn' hp hB hB' hP hr
 go_enter Tryz.func128, Tryz.ntmps128
 go_wp2_with (
  (go_at_call 56; rw [← hW]; refine cR.mono ?_; rintro y w1 ⟨rfl, hb⟩; replace HB := Below.tr HB hb; replace BW := BW.below hb; clear x0 x1 x2 x3 x4; obtain ⟨x0, x1, x2, x3, x4⟩ := id BW; clear hb))
 refine bodyPost_ret (v := .tuple #[.pointer none, .int .i64 1]) (by simp [results, Tryz.results128, go_sem]) rfl ?_
 exact ⟨rfl, HB⟩
set_option maxRecDepth 20000 in
set_option maxHeartbeats 4000000 in
theorem climbed_yes (a a' b : Option Addr) (n c n' c' p f : Nat) (bs ns : List Bool) (ps : List ByteArray) (root gen : Int) (w : World) (hn : n = bs.length) (hn' : n' = ns.length) (hp : p = ps.length) (hB : IsB w a c bs) (hB' : IsB w a' c' ns) (hP : IsS w b f ps) (hr : rightW bs ns ps root gen = true) :
  Calls Tryz.prog 128 #[.agg #[.slice a n c, .slice a' n' c', .slice b p f, .int .i64 root, .int .i64 gen]] w fun x w' => ∃ h g, x = .returned (.tuple #[.pointer (some ⟨h, 0, none⟩), .int .i64 (climbedS ns ps root gen).1]) ∧ ClimbAt w' h g n' (.slice a n c) (.slice a' n' c') (.slice b p f) (.int .i64 root) (.int .i64 gen) (climbedS ns ps root gen).2 ∧ w.heap.size ≤ h ∧ w.heap.size ≤ g ∧ Below w.heap.size w w' := by
 obtain ⟨W, hW⟩ : ∃ W, W = w.alloc (.cells #[.slice a n c, .slice a' n' c', .slice b p f, .int .i64 root, .int .i64 gen] 40) := ⟨_, rfl⟩
 have HB : Below w.heap.size w W := by rw [hW]; exact (Below.refl _ _).alloc (Nat.le_refl _) _
 have BW : WoodBox W w.heap.size (.slice a n c) (.slice a' n' c') (.slice b p f) (.int .i64 root) (.int .i64 gen) := by rw [hW]; exact woodBox_new _ _ _ _ _ _ _ rfl
 have cR := lookRight_any a a' b n c n' c' p f bs ns ps root gen W hn hn' hp (hB.below HB) (hB'.below HB) (hP.below HB)
 rw [hr] at cR
 have hA : rightA bs ns = true := by unfold rightW at hr; simp only [Bool.and_eq_true] at hr; exact hr.1.1.1.1.1
 obtain ⟨-, h24, h2048, -⟩ := (rightA_iff bs ns).1 hA
 have mn : n' ≤ 2048 := by omega
 have mn24 : 24 ≤ n' := by omega
 have cT : ∀ h g, w.heap.size ≤ h → w.heap.size ≤ g → ClimbsAt w h g n' (.slice a n c) (.slice a' n' c') (.slice b p f) (.int .i64 root) (.int .i64 gen) (holdsS ns ps gen) 8 := fun h g h1 h2 => climbs_any w h g a a' b n c n' c' p f bs ns ps root gen hn hn' hp hr h1 h2 hB hB' hP n' (by omega) 8 (Nat.le_refl _)
 obtain ⟨R, hR⟩ : ∃ R, R = climbedS ns ps root gen := ⟨_, rfl⟩
 rw [← hR]
 unfold climbedS at hR
 rw [← hn'] at hR
 obtain ⟨H, hH⟩ : ∃ H, H = holdsS ns ps gen := ⟨_, rfl⟩
 rw [← hH] at hR cT
 have HR : Hid (R = if root = 0 then (0, ⟨freshL n', 0, 0, 0⟩) else climbS H 8 ⟨freshL n', 0, 0, 0⟩ root ⟨#[]⟩ ⟨#[]⟩) := hR
 obtain ⟨x0, x1, x2, x3, x4⟩ := id (hW ▸ BW)
 obtain ⟨Z, hmk, hZ⟩ : ∃ Z : Array Value, (∀ W : World, (Instr.makeSlice 36 (.int .i64 n') (.int .i64 n')).run Tryz.prog W = .ok (.slice (some ⟨W.heap.size, 0, none⟩) n' n') (W.alloc (.cells Z 4))) ∧ Hid (Z = (List.replicate n' (Value.bool false)).toArray) :=
  ⟨madeCells #[.bool false] n', fun W => run_make_row' (P := Tryz.prog) 36 4 (.bool false) 1 Tryz.underlying36 Tryz.info4 rfl .i64 .i64 n' (by omega) (by omega) W, made_one _ n'⟩
 clear hn hn' hp hB hB' hP hr hA h24 h2048 hR hH
 go_enter Tryz.func128, Tryz.ntmps128
 go_wp2_with (
  (go_at_call 56; rw [← hW]; refine cR.mono ?_; rintro y w1 ⟨rfl, hb⟩; replace HB := Below.tr HB hb; replace BW := BW.below hb; clear x0 x1 x2 x3 x4; obtain ⟨x0, x1, x2, x3, x4⟩ := id BW; clear hb))
 have y0 := cell_alloc x0 (.cells Z 4)
 have y1 := cell_alloc x1 (.cells Z 4)
 have y2 := cell_alloc x2 (.cells Z 4)
 have y3 := cell_alloc x3 (.cells Z 4)
 have y4 := cell_alloc x4 (.cells Z 4)
 go_region
 clear y0 y1 y2 y3 y4
 have hw1 := HB.size
 have D := climbAt_new w1 n' hZ.out (by unfold maxLen; omega) (.slice a n c) (.slice a' n' c') (.slice b p f) (.int .i64 root) (.int .i64 gen) 176 (g := w1.heap.size) (h := w1.heap.size + 1) rfl rfl
 replace D := D.below (Below.refl _ _).drew
 have HU : Below w1.heap.size w1 ((w1.alloc (.cells Z 4)).alloc (.cells #[.slice a n c, .slice a' n' c', .slice b p f, .int .i64 root, .int .i64 gen, .int .i64 0, .int .i64 0, .int .i64 0, .slice (some ⟨w1.heap.size, 0, none⟩) n' n'] 176)).drew := (((Below.refl _ _).alloc (Nat.le_refl _) _).alloc (by simp only [World.size_alloc]; omega) _).drew
 generalize ((w1.alloc (.cells Z 4)).alloc (.cells #[.slice a n c, .slice a' n' c', .slice b p f, .int .i64 root, .int .i64 gen, .int .i64 0, .int .i64 0, .int .i64 0, .slice (some ⟨w1.heap.size, 0, none⟩) n' n'] 176)).drew = U at D HU ⊢
 replace HB := Below.tr HB HU
 have hh : w.heap.size ≤ w1.heap.size + 1 := by omega
 generalize hgh : w1.heap.size + 1 = h at *
 generalize w1.heap.size = g at *
 clear hgh HU x0 x1 x2 x3 x4 BW hmk hZ
 go_wp2
 go_loopw [17] (fun v wr => ∃ j : Nat, j ≤ 10 ∧ v = .int .i64 j ∧ ClimbAt wr h g n' (.slice a n c) (.slice a' n' c') (.slice b p f) (.int .i64 root) (.int .i64 gen) ⟨usedL n' j, 0, 0, 0⟩ ∧ Below w.heap.size w wr) (fun v _ => 10 - (intOf v).toNat)
 case atStart => exact ⟨0, by omega, rfl, D, HB⟩
 case round =>
  clear D HB
  obtain ⟨j, hj, rfl, D, HB⟩ := hrel
  have x8 := D.c8
  by_cases hlt : j < 10
  ·
   have hlt' : (j : Int) < 10 := by omega
   have hjn : (j : Int) < n' := by omega
   obtain ⟨hcy, hfy⟩ := D.row.cell (usedL_get j (show j < n' by omega))
   have D2 := D.hold j true
   have D3 : ClimbAt (wr.setCell ⟨g, j, none⟩ (.bool true)) h g n' (.slice a n c) (.slice a' n' c') (.slice b p f) (.int .i64 root) (.int .i64 gen) ⟨usedL n' (j + 1), 0, 0, 0⟩ := by rw [← usedL_set (show j < n' by omega)]; exact D2
   clear D2
   go_wp2
   go_roundw
   case rel => exact ⟨j + 1, by omega, by go_num, D3, HB.setCell (p := ⟨g, j, none⟩) hw1 _⟩
   case measure => simp [intOf]; omega
  ·
   obtain rfl : j = 10 := by omega
   have D' : ClimbAt wr h g n' (.slice a n c) (.slice a' n' c') (.slice b p f) (.int .i64 root) (.int .i64 gen) ⟨freshL n', 0, 0, 0⟩ := D
   have x3 := D'.wb.2.2.2.1
   clear D x8
   by_cases hroot : root = 0
   ·
    have hroot' : (root == 0) = true := by simpa using hroot
    have HF : Hid (R = (0, ⟨freshL n', 0, 0, 0⟩)) := HR.out.trans (if_pos hroot)
    clear hroot
    go_wp2
    refine bodyPost_ret (v := .tuple #[.pointer (some ⟨h, 0, none⟩), .int .i64 0]) (by simp [results, Tryz.results128, go_sem]) rfl ?_
    rw [HF.out]
    exact ⟨h, g, rfl, D', hh, hw1, HB⟩
   ·
    have hroot' : (root == 0) = false := by simpa using hroot
    have HF : Hid (R = climbS H 8 ⟨freshL n', 0, 0, 0⟩ root ⟨#[]⟩ ⟨#[]⟩) := HR.out.trans (if_neg hroot)
    have cC := cT h g hh hw1 wr ⟨freshL n', 0, 0, 0⟩ root 1 ⟨#[]⟩ ⟨#[]⟩ HB D' ⟨by refine Nat.le_trans (Nat.add_le_add_left (howN_fresh _ _) _) ?_; show 0 + (freshL n').length ≤ 10000; rw [freshL_length]; omega, Nat.zero_le _⟩ (by decide)
    rw [← HF.out] at cC
    clear hroot HF HR
    go_wp2_with (go_at_call 160; refine cC.mono ?_; rintro y w2 ⟨rfl, D2, T2⟩)
    refine bodyPost_ret (v := .tuple #[.pointer (some ⟨h, 0, none⟩), .int .i64 R.1]) (by simp [results, Tryz.results128, go_sem]) rfl ?_
    exact ⟨h, g, rfl, D2, hh, hw1, Below.turns HB T2 (fun i hi => by rcases hi with e | e <;> omega)⟩
theorem drewM_below (w : World) (n : Nat) {k : Nat} : Below k w (w.drewN n) := by
 induction n generalizing w with
 | zero => exact Below.refl _ _
 | succ n ih => exact (ih w).drew
set_option maxRecDepth 20000 in
set_option maxHeartbeats 2000000 in
theorem equalB_any (a a' : Option Addr) (c c' n n' : Nat) (xs ys : List Bool) (w : World) (hn : n = xs.length) (hn' : n' = ys.length) (h : IsB w a c xs) (h' : IsB w a' c' ys) :
  Calls Tryz.prog 130 #[.slice a n c, .slice a' n' c'] w fun e w' => e = .returned (.bool (decide (xs = ys))) ∧ Below w.heap.size w w' := by
 have mn : n ≤ 9223372036854775807 := by rw [hn]; exact Nat.le_trans h.1 h.2.1
 have mn' : n' ≤ 9223372036854775807 := by rw [hn']; exact Nat.le_trans h'.1 h'.2.1
 have HB : Below w.heap.size w w := Below.refl _ _
 obtain ⟨r, hr⟩ : ∃ r, r = decide (xs = ys) := ⟨_, rfl⟩
 rw [← hr]
 have HR : Hid (r = decide (xs = ys)) := hr
 have E : Hid (n = xs.length ∧ n' = ys.length) := ⟨hn, hn'⟩
 have I : Hid (IsB w a c xs ∧ IsB w a' c' ys) := ⟨h, h'⟩
 clear hr hn hn' h h'
 by_cases h1 : n = n'
 ·
  have h1' : ((n : Int) != n') = false := by simp [h1]
  have E1 : Hid (n = n') := h1
  clear h1
  go_enter Tryz.func130, Tryz.ntmps130
  go_wp2
  go_loopw [13] (fun v wr => ∃ j : Nat, j ≤ n ∧ v = .int .i64 j ∧ (∀ i, i < j → xs[i]? = ys[i]?) ∧ Below w.heap.size w wr) (fun v _ => n - (intOf v).toNat)
  case atStart => exact ⟨0, by omega, rfl, fun i hi => by omega, HB⟩
  case round =>
   clear HB
   obtain ⟨j, hj, rfl, hA, HB⟩ := hrel
   have HA : Hid (∀ i, i < j → xs[i]? = ys[i]?) := hA
   clear hA
   by_cases hlt : j < n
   ·
    have hlt' : (j : Int) < n := by omega
    have hlt2 : (j : Int) < n' := by have := E1.out; omega
    obtain ⟨x, hx⟩ : ∃ x, Hid (xs[j]? = some x) := get_some (by have := E.out; omega)
    obtain ⟨y, hy⟩ : ∃ x, Hid (ys[j]? = some x) := get_some (by have := E.out; have := E1.out; omega)
    obtain ⟨b1, o1, rfl, -, hc1⟩ := I.out.1.2.2 j x hx.out
    obtain ⟨b2, o2, rfl, -, hc2⟩ := I.out.2.2.2 j y hy.out
    have z1 := cell_below HB hc1
    have z2 := cell_below HB hc2
    clear hc1 hc2
    by_cases he : x = y
    ·
     have he' : (x == y) = true := by simpa using he
     have HN : Hid (∀ i, i < j + 1 → xs[i]? = ys[i]?) := fun i hi => by
      by_cases e : i = j
      ·
       rw [e, hx.out, hy.out, he]
      ·
       exact HA.out i (by omega)
     clear he
     go_wp2
     go_quiet (fail)
     have HBq : Below wr.heap.size wr (wr.drewN nq) := drewM_below wr nq
     generalize wr.drewN nq = w2 at HBq ⊢
     go_wp2
     go_roundw
     case rel => exact ⟨j + 1, by omega, by go_num, HN.out, Below.tr HB HBq⟩
     case measure => simp [intOf]; omega
    ·
     have he' : (x == y) = false := by simpa using he
     have hf : r = false := by rw [HR.out]; refine decide_eq_false fun e => he ?_; have := hx.out; rw [e, hy.out] at this; cases this; rfl
     subst hf
     clear he
     go_wp2
     go_quiet (fail)
     have HBq : Below wr.heap.size wr (wr.drewN nq) := drewM_below wr nq
     generalize wr.drewN nq = w2 at HBq ⊢
     go_wp2
     go_ret
     exact ⟨rfl, Below.tr HB HBq⟩
   ·
    obtain rfl : n = j := by omega
    have hj0 : ¬ (n : Int) < n := by omega
    have hf : r = true := by
     rw [HR.out]
     refine decide_eq_true (List.ext_getElem? fun i => ?_)
     by_cases hi : i < n
     ·
      exact HA.out i hi
     ·
      rw [List.getElem?_eq_none (by have := E.out; omega), List.getElem?_eq_none (by have := E.out; have := E1.out; omega)]
    subst hf
    go_wp2
    go_ret
    exact ⟨rfl, HB⟩
 ·
  have h1' : ((n : Int) != n') = true := by simp; omega
  have hf : r = false := by rw [HR.out]; exact decide_eq_false (fun e => h1 (by rw [E.out.1, E.out.2, e]))
  subst hf
  clear h1
  go_enter Tryz.func130, Tryz.ntmps130
  go_wp2
  go_ret
  exact ⟨rfl, HB⟩
end Go.Proofs.YtaobfgplheoefaaGreat
namespace Go.Proofs.YtaobfgplheoefaaGreat
open Go.RowKit Plain
set_option linter.unusedVariables false
theorem climb_ing {ns : List Bool} {ps : List ByteArray} {gen : Int} : Holding (holdsS ns ps gen) := by
 intro b r nd h
 obtain ⟨l, ks, vs, cs⟩ := nd
 have hs : standsN l ks vs cs = true := (rightN_iff.1 (holds_right h)).1
 obtain ⟨_, hk, hr, _, _, _⟩ := standsN_iff.1 hs
 obtain ⟨_, _, h3, h4⟩ := holds_len b r (l, ks, vs, cs) h
 exact ⟨hr, hk, h3, h4⟩
theorem climb_keyed {ns : List Bool} {ps : List ByteArray} {gen : Int} : Keyed (holdsS ns ps gen) := by
 intro b r nd h hl e
 obtain ⟨l, ks, vs, cs⟩ := nd
 have hs : standsN l ks vs cs = true := (rightN_iff.1 (holds_right h)).1
 obtain ⟨_, _, _, _, _, hsh⟩ := standsN_iff.1 hs
 have e' : ks = [] := e
 have hl' : l = false := hl
 subst hl' e'
 have := (shape_inner.1 hsh).2.1
 simp at this
theorem holds_in {ns : List Bool} {ps : List ByteArray} {gen : Int} : ∀ b r (nd : NodeS), holdsS ns ps gen b r = some nd → 10 ≤ b ∧ b < ns.length := by
 intro b r nd h
 unfold holdsS at h
 split at h
 ·
  rename_i hh
  exact ⟨hh.1, hh.2.1⟩
 ·
  cases h
theorem fresh_held (n : Nat) : HeldBy n (freshL n) [] := ⟨freshL_length n, fun i hi => by rw [freshL_at hi]; simp⟩
theorem climbed_tree (ns : List Bool) (ps : List ByteArray) (root gen : Int) :
  ((treeS ns ps root gen).bad = false → (climbedS ns ps root gen).1 = 0 ∧ Agree ns.length (climbedS ns ps root gen).2 (treeS ns ps root gen)) ∧ ((treeS ns ps root gen).bad = true → (climbedS ns ps root gen).1 = 81) := by
 have h0 : Agree ns.length ⟨freshL ns.length, 0, 0, 0⟩ TreeS.none := ⟨fresh_held _, rfl, rfl, rfl⟩
 unfold treeS climbedS
 by_cases hr : root = 0
 ·
  rw [if_pos hr, if_pos hr]
  exact ⟨fun _ => ⟨rfl, h0⟩, fun h => by cases h⟩
 ·
  rw [if_neg hr, if_neg hr]
  exact climb_below climb_ing climb_keyed holds_in 8 _ _ _ _ _ h0 rfl
theorem rightW_now {bs ns : List Bool} {ps : List ByteArray} {root gen : Int} (h : rightW bs ns ps root gen = true) : rightA bs ns = true := by
 unfold rightW at h
 simp only [Bool.and_eq_true] at h
 exact h.1.1.1.1.1
end Go.Proofs.YtaobfgplheoefaaGreat
namespace Go.Proofs.YtaobfgplheoefaaGreat
namespace Plain
theorem check_err {right : Bool} {ns : List Bool} {t : TreeS} {more : List Int} {e : Int} (h : checkE right ns t more = e) (he : e ≠ 0) : checkP right ns t more = 0 ∧ checkH right ns t more = 0 ∧ checkB right ns t more = 0 := by
 unfold checkP checkH checkB
 rw [h, if_neg he, if_neg he, if_neg he]
 exact ⟨rfl, rfl, rfl⟩
theorem check_right {ns : List Bool} {t : TreeS} {more : List Int} : checkE false ns t more = 1 := by unfold checkE; rw [if_neg (by decide)]
theorem check_bad {ns : List Bool} {t : TreeS} {more : List Int} (h : t.bad = true) : checkE true ns t more = 81 := by unfold checkE; rw [if_pos rfl, if_neg (fun hh => by rw [h] at hh; cases hh.1)]
theorem check_not {ns : List Bool} {t : TreeS} {more : List Int} (h : checkOK ns t more = false) : checkE true ns t more = 81 := by unfold checkE; rw [if_pos rfl, if_neg (fun hh => by rw [h] at hh; cases hh.2)]
theorem check_ok {ns : List Bool} {t : TreeS} {more : List Int} (h0 : t.bad = false) (h : checkOK ns t more = true) : checkE true ns t more = 0 := by unfold checkE; rw [if_pos rfl, if_pos ⟨h0, h⟩]
end Plain
open Go.RowKit Plain
set_option linter.unusedVariables false
set_option maxRecDepth 20000 in
set_option maxHeartbeats 4000000 in
theorem check_any (a a' b : Option Addr) (n c n' c' p f : Nat) (bs ns : List Bool) (ps : List ByteArray) (root gen : Int) (am : Option Addr) (cm nm : Nat) (ms : List Int) (w : World) (hn : n = bs.length) (hn' : n' = ns.length) (hp : p = ps.length) (hm : nm = ms.length) (hB : IsB w a c bs) (hB' : IsB w a' c' ns) (hP : IsS w b f ps) (hI : IsI w am cm ms) :
  Calls Tryz.prog 77 #[.agg #[.slice a n c, .slice a' n' c', .slice b p f, .int .i64 root, .int .i64 gen], .slice am nm cm] w fun x w' => x = .returned (.tuple #[.agg #[.int .i64 (checkP (rightW bs ns ps root gen) ns (treeS ns ps root gen) ms), .int .i64 (checkH (rightW bs ns ps root gen) ns (treeS ns ps root gen) ms), .int .i64 (checkB (rightW bs ns ps root gen) ns (treeS ns ps root gen) ms)], .int .i64 (checkE (rightW bs ns ps root gen) ns (treeS ns ps root gen) ms)]) ∧ Below w.heap.size w w' := by
 obtain ⟨W, hW⟩ : ∃ W, W = (w.alloc (.cells #[.slice a n c, .slice a' n' c', .slice b p f, .int .i64 root, .int .i64 gen] 40)).alloc (.cells #[.int .i64 0, .int .i64 0, .int .i64 0] 96) := ⟨_, rfl⟩
 have HB : Below w.heap.size w W := by rw [hW]; exact ((Below.refl _ _).alloc (Nat.le_refl _) _).alloc (by simp) _
 have BW : WoodBox W w.heap.size (.slice a n c) (.slice a' n' c') (.slice b p f) (.int .i64 root) (.int .i64 gen) := by rw [hW]; exact (woodBox_new _ _ _ _ _ _ _ rfl).below ((Below.refl _ _).alloc (Nat.le_refl _) _)
 have BR : Box3 W (w.heap.size + 1) (.int .i64 0) (.int .i64 0) (.int .i64 0) := by rw [hW]; have := box3_new (w.alloc (.cells #[.slice a n c, .slice a' n' c', .slice b p f, .int .i64 root, .int .i64 gen] 40)) (.int .i64 0) (.int .i64 0) (.int .i64 0) 96; simpa using this
 have hWs : W.heap.size = w.heap.size + 2 := by rw [hW]; simp
 obtain ⟨t, ht⟩ : ∃ t, t = treeS ns ps root gen := ⟨_, rfl⟩
 obtain ⟨x0, x1, x2, x3, x4⟩ := id (hW ▸ BW)
 obtain ⟨⟨r0, r1, r2⟩, f0, f1, f2⟩ := id (hW ▸ BR)
 rw [← ht]
 cases hr : rightW bs ns ps root gen with
 | false =>
  have cC := climbed_no a a' b n c n' c' p f bs ns ps root gen W hn hn' hp (hB.below HB) (hB'.below HB) (hP.below HB) hr
  obtain ⟨rE, hE⟩ : ∃ x, x = checkE false ns t ms := ⟨_, rfl⟩
  obtain ⟨rP, hP'⟩ : ∃ x, x = checkP false ns t ms := ⟨_, rfl⟩
  obtain ⟨rH, hH⟩ : ∃ x, x = checkH false ns t ms := ⟨_, rfl⟩
  obtain ⟨rB, hBB⟩ : ∃ x, x = checkB false ns t ms := ⟨_, rfl⟩
  rw [← hE, ← hP', ← hH, ← hBB]
  have hz := check_err (check_right (ns := ns) (t := t) (more := ms)) (by decide)
  have HF : Hid (rP = 0 ∧ rH = 0 ∧ rB = 0 ∧ rE = 1) := ⟨hP'.trans hz.1, hH.trans hz.2.1, hBB.trans hz.2.2, hE.trans check_right⟩
  clear hn hn' hp hB hB' hP hm hI hr ht hE hP' hH hBB hz
  go_enter Tryz.func77, Tryz.ntmps77
  go_wp2_with (go_at_call 128; rw [← hW]; refine cC.mono ?_; rintro y w1 ⟨rfl, hb⟩; replace HB := Below.tr HB hb; replace BR := BR.below hb; clear x0 x1 x2 x3 x4 r0 r1 r2 f0 f1 f2; obtain ⟨⟨r0, r1, r2⟩, f0, f1, f2⟩ := id BR)
  obtain ⟨z0, z1, z2⟩ := set3_cells (v0 := .int .i64 0) (v1 := .int .i64 0) (v2 := .int .i64 0) r0 r1 r2
  refine bodyPost_ret (v := .tuple #[.agg #[.int .i64 0, .int .i64 0, .int .i64 0], .int .i64 1]) (by simp [results, Tryz.results77, go_sem, z0, z1, z2]) rfl ?_
  rw [HF.out.1, HF.out.2.1, HF.out.2.2.1, HF.out.2.2.2]
  exact ⟨rfl, below_set3 HB (by omega)⟩
 | true =>
  have cC := climbed_yes a a' b n c n' c' p f bs ns ps root gen W hn hn' hp (hB.below HB) (hB'.below HB) (hP.below HB) hr
  obtain ⟨t1, t2⟩ := climbed_tree ns ps root gen
  rw [← ht] at t1 t2
  obtain ⟨-, h24, h2048, -⟩ := (rightA_iff bs ns).1 (rightW_now hr)
  have hck := fun (held : List Bool) (hh : HeldBy ns.length held t.blocks) => check_held (ns := ns) (t := t) (more := ms) (by omega) hh
  obtain ⟨⟨e, s⟩, hes⟩ : ∃ x, x = climbedS ns ps root gen := ⟨_, rfl⟩
  rw [← hes] at cC t1 t2
  obtain ⟨rE, hE⟩ : ∃ x, x = checkE true ns t ms := ⟨_, rfl⟩
  obtain ⟨rP, hP'⟩ : ∃ x, x = checkP true ns t ms := ⟨_, rfl⟩
  obtain ⟨rH, hH⟩ : ∃ x, x = checkH true ns t ms := ⟨_, rfl⟩
  obtain ⟨rB, hBB⟩ : ∃ x, x = checkB true ns t ms := ⟨_, rfl⟩
  rw [← hE, ← hP', ← hH, ← hBB]
  have hbad : checkE true ns t ms = 81 → Hid (rP = 0 ∧ rH = 0 ∧ rB = 0 ∧ rE = 81) := fun h81 => by
   have hz := check_err h81 (by decide)
   exact ⟨hP'.trans hz.1, hH.trans hz.2.1, hBB.trans hz.2.2, hE.trans h81⟩
  have mn : n' ≤ 2048 := by omega
  cases hb : t.bad with
  | true =>
   have HF := hbad (check_bad hb)
   obtain rfl : e = 81 := t2 hb
   clear hn hn' hp hB hB' hP hm hI hr ht hE hP' hH hBB t1 t2 hck hbad hes h24 h2048 hb
   go_enter Tryz.func77, Tryz.ntmps77
   go_wp2_with (
    (go_at_call 128; rw [← hW]; refine cC.mono ?_; rintro y w1 ⟨h, g, rfl, D, hh, hg, hb⟩; replace HB := Below.tr HB hb; replace BR := BR.below hb; replace BW := BW.below hb; clear x0 x1 x2 x3 x4 r0 r1 r2 f0 f1 f2; obtain ⟨x0, x1, x2, x3, x4⟩ := id BW; obtain ⟨⟨r0, r1, r2⟩, f0, f1, f2⟩ := id BR))
   obtain ⟨z0, z1, z2⟩ := set3_cells (v0 := .int .i64 0) (v1 := .int .i64 0) (v2 := .int .i64 0) r0 r1 r2
   refine bodyPost_ret (v := .tuple #[.agg #[.int .i64 0, .int .i64 0, .int .i64 0], .int .i64 81]) (by simp [results, Tryz.results77, go_sem, z0, z1, z2]) rfl ?_
   rw [HF.out.1, HF.out.2.1, HF.out.2.2.1, HF.out.2.2.2]
   exact ⟨rfl, below_set3 HB (by omega)⟩
  | false =>
   obtain ⟨e0, hA⟩ := t1 hb
   replace e0 : e = 0 := e0
   subst e0
   replace hA : Agree ns.length s t := hA
   have hck2 := hck _ hA.held
   have cH : ∀ (V : World) (h g : Nat), Below w.heap.size w V → w.heap.size ≤ g → ClimbAt V h g n' (.slice a n c) (.slice a' n' c') (.slice b p f) (.int .i64 root) (.int .i64 gen) s → Calls Tryz.prog 129 #[.pointer (some ⟨h, 0, none⟩), .slice am nm cm] V fun e V' => e = .returned (.bool (holdL s.held ms).1) ∧ ClimbAt V' h g n' (.slice a n c) (.slice a' n' c') (.slice b p f) (.int .i64 root) (.int .i64 gen) ⟨(holdL s.held ms).2, s.pairs, s.height, s.blocks⟩ ∧ Turns (fun k => k = g) V V' := fun V h g hV hg hD =>
    hold_any V h g n' _ _ _ _ _ s am cm nm ms hm (hI.below hV) (fun hne x hx e => by
     cases ms with
     | nil => exact hne rfl
     | cons m0 ms0 =>
      obtain ⟨b0, o0, ha0, hlt0, _⟩ := hI.2.2 0 m0 rfl
      rw [ha0] at hx
      cases hx
      have e' : b0 = g := e
      omega) hD (by omega)
   have cQ : ∀ (V : World) (h g : Nat) (l : List Bool), Below w.heap.size w V → ClimbAt V h g n' (.slice a n c) (.slice a' n' c') (.slice b p f) (.int .i64 root) (.int .i64 gen) ⟨l, s.pairs, s.height, s.blocks⟩ → Calls Tryz.prog 130 #[.slice (some ⟨g, 0, none⟩) n' n', .slice a' n' c'] V fun e V' => e = .returned (.bool (decide (l = ns))) ∧ Below V.heap.size V V' := fun V h g l hV hD =>
    equalB_any (some ⟨g, 0, none⟩) a' n' c' n' n' l ns V hD.len.symm hn' hD.row.isB (hB'.below hV)
   obtain ⟨⟨q, l2⟩, hql⟩ : ∃ x, x = holdL s.held ms := ⟨_, rfl⟩
   rw [← hql] at hck2 cH
   have hpos : checkOK ns t ms = true → Hid (rP = (s.pairs : Int) ∧ rH = s.height ∧ rB = (s.blocks : Int) ∧ rE = 0) := fun hok => by
    have h0 := check_ok hb hok
    refine ⟨hP'.trans ?_, hH.trans ?_, hBB.trans ?_, hE.trans h0⟩
    ·
     unfold checkP; rw [h0, if_pos rfl, hA.pairs]
    ·
     unfold checkH; rw [h0, if_pos rfl, hA.height]
    ·
     unfold checkB; rw [h0, if_pos rfl, hA.blocks]
   replace hck2 : checkOK ns t ms = (q && decide (l2 = ns)) := hck2
   have hcond : checkOK ns t ms = false → Hid (rP = 0 ∧ rH = 0 ∧ rB = 0 ∧ rE = 81) := fun hno => hbad (check_not hno)
   clear hn hn' hp hB hB' hP hm hI hr ht hE hP' hH hBB t1 t2 hck hbad hes h24 h2048 hb hA hql
   cases q with
   | false =>
    have HF := hcond (by rw [hck2]; rfl)
    clear hck2 hpos hcond cQ
    go_enter Tryz.func77, Tryz.ntmps77
    go_wp2_with (
     (go_at_call 128; rw [← hW]; refine cC.mono ?_; rintro y w1 ⟨h, g, rfl, D, hh, hg, hb⟩; replace HB := Below.tr HB hb; replace BR := BR.below hb; replace BW := BW.below hb; clear x0 x1 x2 x3 x4 r0 r1 r2 f0 f1 f2; obtain ⟨x0, x1, x2, x3, x4⟩ := id BW; obtain ⟨⟨r0, r1, r2⟩, f0, f1, f2⟩ := id BR))
    have hD0 : Below w1.heap.size w1 w1.drew := (Below.refl _ _).drew
    replace D := D.below hD0
    replace HB := Below.tr HB hD0
    replace BR := BR.below hD0
    refine wp_region_noPanic ?_
    refine wp_region_held_drew (S := fun X => True) (by kernel_rfl) trivial (fun hHeld => ?_)
    refine take_at (i := 0) (v := ?_) rfl (by kernel_rfl) (by kernel_rfl) (by kernel_rfl) (fun _ _ _ h => h) (Or.inl ⟨by rfl, ?_⟩) (by assumption) ?_
    rotate_left 1
    ·
     (intro w hSw; (try dsimp only at hSw); go_simp; (try with_reducible rfl))
    try go_frame
    refine take_at (i := 1) (v := ?_) rfl (by kernel_rfl) (by kernel_rfl) (by kernel_rfl) (fun _ _ _ h => h) (Or.inl ⟨by rfl, ?_⟩) (by assumption) ?_
    rotate_left 1
    ·
     (intro w hSw; (try dsimp only at hSw); go_simp; (try with_reducible rfl))
    try go_frame
    refine wpAnyH_ready (rs := [2]) (by kernel_rfl) (by simp) ?_
    refine cons_at (i := 2) rfl (fun K hK => ?_) AllReadyH.nil
    go_simp
    go_at_call 129
    refine (cH _ h g HB (by omega) D).mono ?_
    rintro y w2 ⟨rfl, D2, T2⟩
    replace BR := BR.turns T2 (by omega)
    replace HB := Below.turns HB T2 (fun i hi => by omega)
    clear r0 r1 r2 f0 f1 f2
    obtain ⟨⟨r0, r1, r2⟩, f0, f1, f2⟩ := id BR
    refine hK.out _ _ ?_ (fun hHeld2 => ?_)
    ·
     exact trivial
    clear hK K
    refine take_at (i := 3) (v := ?_) rfl (by kernel_rfl) (by kernel_rfl) (by kernel_rfl) (fun _ _ _ h => h) (Or.inl ⟨by rfl, ?_⟩) (by assumption) ?_
    rotate_left 1
    ·
     (intro w hSw; (try dsimp only at hSw); go_simp; (try with_reducible rfl))
    try go_frame
    refine take_at (i := 4) (v := ?_) rfl (by kernel_rfl) (by kernel_rfl) (by kernel_rfl) (fun _ _ _ h => h) (Or.inl ⟨by rfl, ?_⟩) (by assumption) ?_
    rotate_left 1
    ·
     (intro w hSw; (try dsimp only at hSw); go_simp; (try with_reducible rfl))
    try go_frame
    refine take_at (i := 5) (v := undef) rfl (by kernel_rfl) (by kernel_rfl) (by kernel_rfl) (fun _ _ _ h => h) (Or.inr ⟨by rfl, rfl⟩) (by assumption) ?_
    try go_frame
    refine take_at (i := 6) (v := undef) rfl (by kernel_rfl) (by kernel_rfl) (by kernel_rfl) (fun _ _ _ h => h) (Or.inr ⟨by rfl, rfl⟩) (by assumption) ?_
    try go_frame
    refine take_at (i := 7) (v := undef) rfl (by kernel_rfl) (by kernel_rfl) (by kernel_rfl) (fun _ _ _ h => h) (Or.inr ⟨by rfl, rfl⟩) (by assumption) ?_
    try go_frame
    refine take_at (i := 8) (v := undef) rfl (by kernel_rfl) (by kernel_rfl) (by kernel_rfl) (fun _ _ _ h => h) (Or.inr ⟨by rfl, rfl⟩) (by assumption) ?_
    try go_frame
    refine take_at (i := 9) (v := undef) rfl (by kernel_rfl) (by kernel_rfl) (by kernel_rfl) (fun _ _ _ h => h) (Or.inr ⟨by rfl, rfl⟩) (by assumption) ?_
    try go_frame
    refine take_at (i := 10) (v := undef) rfl (by kernel_rfl) (by kernel_rfl) (by kernel_rfl) (fun _ _ _ h => h) (Or.inr ⟨by rfl, rfl⟩) (by assumption) ?_
    try go_frame
    refine take_at (i := 11) (v := undef) rfl (by kernel_rfl) (by kernel_rfl) (by kernel_rfl) (fun _ _ _ h => h) (Or.inr ⟨by rfl, rfl⟩) (by assumption) ?_
    try go_frame
    refine take_at (i := 12) (v := undef) rfl (by kernel_rfl) (by kernel_rfl) (by kernel_rfl) (fun _ _ _ h => h) (Or.inr ⟨by rfl, rfl⟩) (by assumption) ?_
    try go_frame
    refine take_at (i := 13) (v := undef) rfl (by kernel_rfl) (by kernel_rfl) (by kernel_rfl) (fun _ _ _ h => h) (Or.inr ⟨by rfl, rfl⟩) (by assumption) ?_
    try go_frame
    refine take_at (i := 14) (v := undef) rfl (by kernel_rfl) (by kernel_rfl) (by kernel_rfl) (fun _ _ _ h => h) (Or.inr ⟨by rfl, rfl⟩) (by assumption) ?_
    try go_frame
    refine take_at (i := 15) (v := undef) rfl (by kernel_rfl) (by kernel_rfl) (by kernel_rfl) (fun _ _ _ h => h) (Or.inr ⟨by rfl, rfl⟩) (by assumption) ?_
    try go_frame
    refine take_at (i := 16) (v := undef) rfl (by kernel_rfl) (by kernel_rfl) (by kernel_rfl) (fun _ _ _ h => h) (Or.inr ⟨by rfl, rfl⟩) (by assumption) ?_
    try go_frame
    refine take_at (i := 17) (v := ?_) rfl (by kernel_rfl) (by kernel_rfl) (by kernel_rfl) (fun _ _ _ h => h) (Or.inl ⟨by rfl, ?_⟩) (by assumption) ?_
    rotate_left 1
    ·
     (intro w hSw; (try dsimp only at hSw); go_simp; (try with_reducible rfl))
    try go_frame
    refine wpAnyH_done (by kernel_rfl) ?_ _
    refine NoPanic.normal ?_
    go_wp2
    obtain ⟨z0, z1, z2⟩ := set3_cells (v0 := .int .i64 0) (v1 := .int .i64 0) (v2 := .int .i64 0) r0 r1 r2
    refine bodyPost_ret (v := .tuple #[.agg #[.int .i64 0, .int .i64 0, .int .i64 0], .int .i64 81]) (by simp [results, Tryz.results77, go_sem, z0, z1, z2]) rfl ?_
    rw [HF.out.1, HF.out.2.1, HF.out.2.2.1, HF.out.2.2.2]
    exact ⟨rfl, below_set3 HB (by omega)⟩
   | true =>
    by_cases hq : l2 = ns
    ·
     have HF := hpos (by rw [hck2, decide_eq_true hq]; rfl)
     have cQ2 := fun V h g hV hD => cQ V h g l2 hV hD
     rw [decide_eq_true hq] at cQ2
     clear hck2 hpos hcond hq cQ
     go_enter Tryz.func77, Tryz.ntmps77
     go_wp2_with (
      (go_at_call 128; rw [← hW]; refine cC.mono ?_; rintro y w1 ⟨h, g, rfl, D, hh, hg, hb⟩; replace HB := Below.tr HB hb; replace BR := BR.below hb; replace BW := BW.below hb; clear x0 x1 x2 x3 x4 r0 r1 r2 f0 f1 f2; obtain ⟨x0, x1, x2, x3, x4⟩ := id BW; obtain ⟨⟨r0, r1, r2⟩, f0, f1, f2⟩ := id BR))
     have hD0 : Below w1.heap.size w1 w1.drew := (Below.refl _ _).drew
     replace D := D.below hD0
     replace HB := Below.tr HB hD0
     replace BR := BR.below hD0
     go_region_held3 (fun X => X.cell? ⟨h, 8, none⟩ = some (.slice (some ⟨g, 0, none⟩) n' n') ∧ X.cell? ⟨h, 1, none⟩ = some (.slice a' n' c')) (exact ⟨D.c8, D.wb.2.1⟩)
      (first
       | (go_at_call 129; refine (cH _ h g HB (by omega) D).mono ?_; rintro y w2 ⟨rfl, D2, T2⟩; replace BR := BR.turns T2 (by omega); replace HB := Below.turns HB T2 (fun i hi => (by omega)); replace D := D2; clear D2 T2)
       | (go_at_call 130; refine (cQ2 _ h g HB D).mono ?_; rintro y w3 ⟨rfl, hb3⟩; replace BR := BR.below hb3; replace HB := Below.tr HB hb3; replace D := D.below hb3; clear hb3))
     clear r0 r1 r2 f0 f1 f2
     obtain ⟨⟨r0, r1, r2⟩, f0, f1, f2⟩ := id BR
     have q5 := D.c5
     have q6 := D.c6
     have q7 := D.c7
     go_wp2
     obtain ⟨z0, z1, z2⟩ := set3_cells (v0 := .int .i64 s.pairs) (v1 := .int .i64 s.height) (v2 := .int .i64 s.blocks) r0 r1 r2
     refine bodyPost_ret (v := .tuple #[.agg #[.int .i64 s.pairs, .int .i64 s.height, .int .i64 s.blocks], .int .i64 0]) (by simp [results, Tryz.results77, go_sem, z0, z1, z2]) rfl ?_
     rw [HF.out.1, HF.out.2.1, HF.out.2.2.1, HF.out.2.2.2]
     exact ⟨rfl, below_set3 HB (by omega)⟩
    ·
     have HF := hcond (by rw [hck2, decide_eq_false hq]; rfl)
     have cQ2 := fun V h g hV hD => cQ V h g l2 hV hD
     rw [decide_eq_false hq] at cQ2
     clear hck2 hpos hcond hq cQ
     go_enter Tryz.func77, Tryz.ntmps77
     go_wp2_with (
      (go_at_call 128; rw [← hW]; refine cC.mono ?_; rintro y w1 ⟨h, g, rfl, D, hh, hg, hb⟩; replace HB := Below.tr HB hb; replace BR := BR.below hb; replace BW := BW.below hb; clear x0 x1 x2 x3 x4 r0 r1 r2 f0 f1 f2; obtain ⟨x0, x1, x2, x3, x4⟩ := id BW; obtain ⟨⟨r0, r1, r2⟩, f0, f1, f2⟩ := id BR))
     have hD0 : Below w1.heap.size w1 w1.drew := (Below.refl _ _).drew
     replace D := D.below hD0
     replace HB := Below.tr HB hD0
     replace BR := BR.below hD0
     go_region_held3 (fun X => X.cell? ⟨h, 8, none⟩ = some (.slice (some ⟨g, 0, none⟩) n' n') ∧ X.cell? ⟨h, 1, none⟩ = some (.slice a' n' c')) (exact ⟨D.c8, D.wb.2.1⟩)
      (first
       | (go_at_call 129; refine (cH _ h g HB (by omega) D).mono ?_; rintro y w2 ⟨rfl, D2, T2⟩; replace BR := BR.turns T2 (by omega); replace HB := Below.turns HB T2 (fun i hi => (by omega)); replace D := D2; clear D2 T2)
       | (go_at_call 130; refine (cQ2 _ h g HB D).mono ?_; rintro y w3 ⟨rfl, hb3⟩; replace BR := BR.below hb3; replace HB := Below.tr HB hb3; replace D := D.below hb3; clear hb3))
     clear r0 r1 r2 f0 f1 f2
     obtain ⟨⟨r0, r1, r2⟩, f0, f1, f2⟩ := id BR
     have q5 := D.c5
     have q6 := D.c6
     have q7 := D.c7
     go_wp2
     obtain ⟨z0, z1, z2⟩ := set3_cells (v0 := .int .i64 0) (v1 := .int .i64 0) (v2 := .int .i64 0) r0 r1 r2
     refine bodyPost_ret (v := .tuple #[.agg #[.int .i64 0, .int .i64 0, .int .i64 0], .int .i64 81]) (by simp [results, Tryz.results77, go_sem, z0, z1, z2]) rfl ?_
     rw [HF.out.1, HF.out.2.1, HF.out.2.2.1, HF.out.2.2.2]
     exact ⟨rfl, below_set3 HB (by omega)⟩
end Go.Proofs.YtaobfgplheoefaaGreat
namespace Go.Proofs.YtaobfgplheoefaaGreat.Plain
open Go.RowKit Go.Proofs.YtaobfgplheoefaaGreat
def paE (us ns : List Bool) (ps : List ByteArray) (r g m : Int) : Int := checkE (rightW us ns ps r g) ns (treeS ns ps r g) [m]
def wdU (bs : List ByteArray) (t : ByteArray) : List Bool := usL (blk bs (suM t).toNat) (suG t) (suZ t)
def wdE (bs : List ByteArray) (t : ByteArray) : Int :=
 if usE (blk bs (suM t).toNat) (suG t) (suZ t) = 0 then paE (wdU bs t) (wdU bs t) (pgL bs (wdU bs t)) (suR t) (suG t + 1) (suM t) else 120
def mtE (bs : List ByteArray) (ps : List (Int × ByteArray)) (t : ByteArray) : Int :=
 if rightD bs ps = true ∧ ps.length = 0 then (if (chE t = 0 ∧ suZ t = bs.length ∧ ¬ suG t = 1099511627776) ∧ wdE bs t = 0 then 0 else 120) else 1
def mtN (e x : Int) : Int := if e = 0 then x else 0
def mtI (e : Int) (i : Nat) : Nat := if e = 0 then i else 0
def mtL {α : Type} (e : Int) (l : List α) : List α := if e = 0 then l else []
theorem mtN_ok {e x : Int} (h : e = 0) : mtN e x = x := if_pos h
theorem mtI_ok {e : Int} {i : Nat} (h : e = 0) : mtI e i = i := if_pos h
theorem mtL_ok {α : Type} {e : Int} {l : List α} (h : e = 0) : mtL e l = l := if_pos h
theorem mtN_no {e x : Int} (h : ¬ e = 0) : mtN e x = 0 := if_neg h
theorem mtI_no {e : Int} {i : Nat} (h : ¬ e = 0) : mtI e i = 0 := if_neg h
theorem mtL_no {α : Type} {e : Int} {l : List α} (h : ¬ e = 0) : mtL e l = [] := if_neg h
theorem mt_arg {bs : List ByteArray} {ps : List (Int × ByteArray)} {t : ByteArray} (h : ¬ (rightD bs ps = true ∧ ps.length = 0)) : mtE bs ps t = 1 := if_neg h
theorem mt_su {bs : List ByteArray} {ps : List (Int × ByteArray)} {t : ByteArray} (h : rightD bs ps = true ∧ ps.length = 0) (h' : ¬ (chE t = 0 ∧ suZ t = bs.length ∧ ¬ suG t = 1099511627776)) : mtE bs ps t = 120 := by
 unfold mtE; rw [if_pos h, if_neg (fun hh => h' hh.1)]
theorem mt_wd {bs : List ByteArray} {ps : List (Int × ByteArray)} {t : ByteArray} (h : rightD bs ps = true ∧ ps.length = 0) (h' : ¬ wdE bs t = 0) : mtE bs ps t = 120 := by
 unfold mtE; rw [if_pos h, if_neg (fun hh => h' hh.2)]
theorem mt_ok {bs : List ByteArray} {ps : List (Int × ByteArray)} {t : ByteArray} (h : rightD bs ps = true ∧ ps.length = 0) (h1 : chE t = 0 ∧ suZ t = bs.length ∧ ¬ suG t = 1099511627776) (h2 : wdE bs t = 0) : mtE bs ps t = 0 := by
 unfold mtE; rw [if_pos h, if_pos ⟨h1, h2⟩]
theorem wd_pa {bs : List ByteArray} {t : ByteArray} (h : usE (blk bs (suM t).toNat) (suG t) (suZ t) = 0) : wdE bs t = paE (wdU bs t) (wdU bs t) (pgL bs (wdU bs t)) (suR t) (suG t + 1) (suM t) := if_pos h
theorem ch_right {t : ByteArray} (h : chE t = 0) : (1 ≤ suG t ∧ suG t ≤ 1099511627776) ∧ (24 ≤ suZ t ∧ suZ t ≤ 2048) ∧ (suR t = 0 ∨ (10 ≤ suR t ∧ suR t < suZ t)) ∧ (10 ≤ suM t ∧ suM t < suZ t) ∧ ¬ suM t = suR t := by
 have h1 : suE t = 0 := by
  apply (suG_pos (s := t)).2.2
  have := (suG_pos (s := t)).1
  have h0 : ¬ suG t = 0 := fun h0 => by unfold chE at h; rw [if_pos h0] at h; cases h
  omega
 exact (rightSu_iff _ _ _ _).1 (su_once h1).1
end Go.Proofs.YtaobfgplheoefaaGreat.Plain
namespace Go.Proofs.YtaobfgplheoefaaGreat
open Go.RowKit Plain
set_option linter.unusedVariables false
def BoxL (w : World) (h : Nat) (vs : List Value) : Prop :=
 (∀ i v, vs[i]? = some v → w.cell? ⟨h, i, none⟩ = some v) ∧ ∀ i, i < vs.length → w.frozen? ⟨h, i, none⟩ = false
theorem boxL_new (w : World) (vs : List Value) (t : TypeId) {h : Nat} (hh : h = w.heap.size) : BoxL (w.alloc (.cells vs.toArray t)) h vs := by
 subst hh
 refine ⟨fun i v hv => (World.cell?_alloc_at _ _ _ _ rfl).trans (by rw [List.getElem?_toArray]; exact hv), fun i _ => ?_⟩
 exact (World.frozen?_alloc_mark w _ _ _ _ i).trans (by simp)
theorem BoxL.lt {w : World} {h : Nat} {vs : List Value} (b : BoxL w h vs) (h0 : 0 < vs.length) : h < w.heap.size :=
 cell_lt (b.1 0 _ (List.getElem?_eq_getElem h0))
theorem BoxL.below {w w' : World} {h : Nat} {vs : List Value} (b : BoxL w h vs) (hb : Below w.heap.size w w') : BoxL w' h vs := by
 refine ⟨fun i v hv => cell_below hb (b.1 i v hv), fun i hi => ?_⟩
 have hl : h < w.heap.size := b.lt (by omega)
 rw [hb.frozen (p := ⟨h, i, none⟩) hl]
 exact b.2 i hi
theorem BoxL.alloc {w : World} {h : Nat} {vs : List Value} (b : BoxL w h vs) (o : Obj) : BoxL (w.alloc o) h vs := b.below ((Below.refl _ _).alloc (Nat.le_refl _) o)
theorem BoxL.set {w : World} {h : Nat} {vs : List Value} (b : BoxL w h vs) (i : Nat) (u : Value) : BoxL (w.setCell ⟨h, i, none⟩ u) h (vs.set i u) := by
 refine ⟨fun j v hv => ?_, fun j hj => ?_⟩
 ·
  by_cases hij : i = j
  ·
   subst hij
   rw [List.getElem?_set] at hv
   rw [if_pos rfl] at hv
   split at hv
   ·
    rename_i hi
    obtain rfl := Option.some.inj hv
    exact World.cell?_setCell_same _ _ _ (b.1 i _ (List.getElem?_eq_getElem hi))
   ·
    cases hv
  ·
   rw [List.getElem?_set_ne hij] at hv
   rw [World.cell?_setCell_other _ _ _ _ (fun hh => by cases hh; exact hij rfl)]
   exact b.1 j v hv
 ·
  rw [List.length_set] at hj
  simpa using b.2 j hj
theorem BoxL.off {w : World} {h k i : Nat} {vs : List Value} {u : Value} (b : BoxL w h vs) (hn : h ≠ k) : BoxL (w.setCell ⟨k, i, none⟩ u) h vs :=
 ⟨fun j v hv => by rw [World.cell?_setCell_other _ _ _ _ (fun hh => hn (congrArg Addr.block hh).symm)]; exact b.1 j v hv, fun j hj => by simpa using b.2 j hj⟩
def setL (w : World) (h : Nat) : Nat → List Value → World
 | _, [] => w
 | i, v :: vs => setL (w.setCell ⟨h, i, none⟩ v) h (i + 1) vs
theorem Below.setL {n : Nat} {w : World} {h : Nat} (hh : n ≤ h) : ∀ (vs : List Value) (i : Nat) (w1 : World), Below n w w1 → Below n w (setL w1 h i vs)
 | [], _, _, hb => hb
 | v :: vs, i, w1, hb => Below.setL hh vs (i + 1) _ (hb.setCell (p := ⟨h, i, none⟩) hh v)
theorem BoxL.setAll_aux {h : Nat} : ∀ (vs us : List Value) (i : Nat) (w : World), BoxL w h us → i + vs.length = us.length → BoxL (setL w h i vs) h (us.take i ++ vs)
 | [], us, i, w, b, e => by
  rw [List.append_nil, List.take_of_length_le (by simpa using Nat.le_of_eq e.symm)]
  exact b
 | v :: vs, us, i, w, b, e => by
  have := BoxL.setAll_aux vs (us.set i v) (i + 1) _ (b.set i v) (by rw [List.length_set, ← e]; simp; omega)
  have hi : i < us.length := by rw [← e]; simp
  rw [show (us.set i v).take (i + 1) ++ vs = us.take i ++ v :: vs by
   rw [List.take_add_one, List.take_set_of_le (Nat.le_refl i), List.getElem?_set_self hi]
   simp] at this
  exact this
theorem BoxL.setAll {w : World} {h : Nat} {us : List Value} (b : BoxL w h us) (vs : List Value) (e : vs.length = us.length) : BoxL (setL w h 0 vs) h vs := by
 have := BoxL.setAll_aux vs us 0 w b (by omega)
 simpa using this
theorem BoxL.offAll {h k : Nat} {us : List Value} (hn : h ≠ k) : ∀ (vs : List Value) (i : Nat) (w : World), BoxL w h us → BoxL (setL w k i vs) h us
 | [], _, _, b => b
 | v :: vs, i, w, b => BoxL.offAll hn vs (i + 1) _ (b.off hn)
set_option maxRecDepth 20000 in
theorem tells_any (h : Nat) (a a' : Option Addr) (n n' c c' : Nat) (bs : List ByteArray) (ps : List (Int × ByteArray)) (k : Int) (w : World) (hn : n = bs.length) (hn' : n' = ps.length) (hx : BoxL w h [.slice a n c, .slice a' n' c']) (hS : IsS w a c bs) (hP : IsP w a' c' ps) :
  Calls Tryz.prog 33 #[.pointer (some ⟨h, 0, none⟩), .int .i64 k] w fun e w' => e = .returned (.string (readS bs ps k)) ∧ Below w.heap.size w w' := by
 have cR := read_any a a' c c' bs ps k w hS hP
 rw [← hn, ← hn'] at cR
 obtain ⟨s, hs⟩ : ∃ s, s = readS bs ps k := ⟨_, rfl⟩
 obtain ⟨E, hE⟩ : ∃ E, E = blkE bs ps k := ⟨_, rfl⟩
 rw [← hs, ← hE] at cR
 rw [← hs]
 clear hs hE hn hn' hS hP
 have q0 := hx.1 0 _ rfl
 have q1 := hx.1 1 _ rfl
 go_enter Tryz.func33, Tryz.ntmps33
 go_wp2_with (go_at_call 73; refine cR.mono ?_; rintro e w1 ⟨rfl, hb⟩)
 go_ret
 exact ⟨rfl, hb⟩
theorem tellOn_okS (k : Int) (n : Nat) : ∀ (ps : List (Int × ByteArray)) (s : ByteArray), okS s = true → (∀ p ∈ ps, okW n p = true) → okS (tellOn k s ps) = true
 | [], s, h, _ => h
 | p :: ps, s, h, hp => by
  refine tellOn_okS k n ps _ ?_ (fun q hq => hp q (List.mem_cons_of_mem _ hq))
  split
  ·
   exact ((okW_iff _ _).1 (hp p (by simp))).2
  ·
   exact h
theorem readS_small (bs : List ByteArray) (ps : List (Int × ByteArray)) (k : Int) : (readS bs ps k).size ≤ 4096 := by
 unfold readS
 split
 ·
  rename_i h
  obtain ⟨hr, h0, h1⟩ := blkE_zero h
  obtain ⟨_, r2, r3⟩ := (rightD_iff _ _).1 hr
  have hk : k.toNat < bs.length := by omega
  have := tellOn_okS k.toNat bs.length ps (blk bs k.toNat) (r2 _ (by unfold blk; rw [List.getElem?_eq_getElem hk]; exact List.getElem_mem hk)) r3
  exact ((okS_iff _).1 this).1
 ·
  exact Nat.zero_le _
theorem readS_ok {bs : List ByteArray} {k : Nat} (h : rightD bs [] = true) (hk : k < bs.length) : readS bs [] k = blk bs k := by
 unfold readS
 rw [if_pos]
 ·
  show tellOn _ _ [] = _
  simp [tellOn]
 ·
  unfold blkE
  rw [if_pos h, if_pos (by simp; omega)]
theorem us_want {s : ByteArray} {g z : Int} (h : ¬ wantE s [3] = 0) : usE s g z = wantE s [3] ∧ usL s g z = [] := by
 have e : usE s g z = wantE s [3] := if_neg h
 exact ⟨e, by unfold usL; rw [e, if_neg h]⟩
theorem us_gen {s : ByteArray} {g z : Int} (h : wantE s [3] = 0) (h' : ¬ wantG s [3] ≤ g) : usE s g z = 120 ∧ usL s g z = [] := by
 have e : usE s g z = 120 := by unfold usE; rw [if_pos h, if_neg h']
 exact ⟨e, by unfold usL; rw [e]; rfl⟩
theorem us_un {s : ByteArray} {g z : Int} (h : wantE s [3] = 0) (h' : wantG s [3] ≤ g) : usE s g z = unE (wantB s [3]) z ∧ usL s g z = unL (wantB s [3]) z := by
 have e : usE s g z = unE (wantB s [3]) z := by unfold usE; rw [if_pos h, if_pos h']
 refine ⟨e, ?_⟩
 unfold usL
 rw [e]
 split
 ·
  rfl
 ·
  rename_i hh; rw [unL_bad hh]
set_option maxRecDepth 20000 in
set_option maxHeartbeats 2000000 in
theorem used_any (h : Nat) (g r m z : Int) (s : ByteArray) (w : World) (hs : s.size ≤ maxLen)
  (cT : ∀ W, Below w.heap.size w W → Calls Tryz.prog 33 #[.pointer (some ⟨h, 0, none⟩), .int .i64 m] W fun e w' => e = .returned (.string s) ∧ Below W.heap.size W w') :
  Calls Tryz.prog 34 #[.pointer (some ⟨h, 0, none⟩), .agg #[.int .i64 g, .int .i64 r, .int .i64 m, .int .i64 z]] w fun e w' => ∃ a c, e = .returned (.tuple #[.slice a (usL s g z).length c, .int .i64 (usE s g z)]) ∧ IsB w' a c (usL s g z) ∧ Below w.heap.size w w' := by
 have hA : Below w.heap.size w (w.alloc (.cells #[.int .i64 g, .int .i64 r, .int .i64 m, .int .i64 z] 35)) := (Below.refl _ _).alloc (Nat.le_refl _) _
 have bx := boxL_new w [.int .i64 g, .int .i64 r, .int .i64 m, .int .i64 z] 35 rfl
 have cW : ∀ W : World, Calls Tryz.prog 74 #[.string s, .slice (some ⟨W.heap.size, 0, none⟩) 1 1] (W.alloc (.cells #[.int .i64 3] 3)) fun e w' => e = .returned (.tuple #[.agg #[.int .i64 (wantK s [3]), .int .i64 (wantG s [3]), .string (wantB s [3])], .int .i64 (wantE s [3])]) ∧ Below W.heap.size W w' :=
  fun W => (want_any s _ 1 [3] _ hs (isI_one W 3)).mono fun e w' ⟨he, hb⟩ => ⟨he, below_box hb⟩
 have cU : ∀ W : World, Calls Tryz.prog 75 #[.string (wantB s [3]), .int .i64 z] W fun e w' => ∃ a c, e = .returned (.tuple #[.slice a (unL (wantB s [3]) z).length c, .int .i64 (unE (wantB s [3]) z)]) ∧ IsB w' a c (unL (wantB s [3]) z) ∧ Below W.heap.size W w' :=
  fun W => unpack_any (wantB s [3]) z W (wantB_few s [3])
 have u1 : Hid (¬ wantE s [3] = 0 → usE s g z = wantE s [3] ∧ usL s g z = []) := us_want
 have u2 : Hid (wantE s [3] = 0 → ¬ wantG s [3] ≤ g → usE s g z = 120 ∧ usL s g z = []) := us_gen
 have u3 : Hid (wantE s [3] = 0 → wantG s [3] ≤ g → usE s g z = unE (wantB s [3]) z ∧ usL s g z = unL (wantB s [3]) z) := us_un
 have L3 : Hid ((unL (wantB s [3]) z).length = (unL (wantB s [3]) z).length) := rfl
 obtain ⟨E, hE⟩ : ∃ E, E = wantE s [3] := ⟨_, rfl⟩
 obtain ⟨K, hK⟩ : ∃ K, K = wantK s [3] := ⟨_, rfl⟩
 obtain ⟨G, hG⟩ : ∃ G, G = wantG s [3] := ⟨_, rfl⟩
 obtain ⟨B, hBB⟩ : ∃ B, B = wantB s [3] := ⟨_, rfl⟩
 rw [← hE, ← hK, ← hG, ← hBB] at cW
 rw [← hBB] at cU
 rw [← hE] at u1
 rw [← hE, ← hG] at u2
 rw [← hE, ← hG, ← hBB] at u3
 clear hE hK hG hBB L3
 obtain ⟨U, hU⟩ : ∃ U, U = unL B z := ⟨_, rfl⟩
 obtain ⟨F, hF⟩ : ∃ F, F = unE B z := ⟨_, rfl⟩
 rw [← hU, ← hF] at cU u3
 clear hU hF
 obtain ⟨X, hX⟩ : ∃ X, X = usE s g z := ⟨_, rfl⟩
 obtain ⟨Y, hY⟩ : ∃ Y, Y = usL s g z := ⟨_, rfl⟩
 rw [← hX, ← hY] at u1 u2 u3 ⊢
 clear hX hY
 obtain ⟨W0, hW0⟩ : ∃ W0, W0 = w.alloc (.cells #[.int .i64 g, .int .i64 r, .int .i64 m, .int .i64 z] 35) := ⟨_, rfl⟩
 rw [show (w.alloc (.cells [Value.int .i64 g, .int .i64 r, .int .i64 m, .int .i64 z].toArray 35)) = W0 from hW0.symm] at bx
 rw [← hW0] at hA
 have q0 := bx.1 0 _ rfl
 have q1 := bx.1 1 _ rfl
 have q2 := bx.1 2 _ rfl
 have q3 := bx.1 3 _ rfl
 by_cases h0 : E = 0
 ·
  by_cases h1 : G ≤ g
  ·
   obtain ⟨rfl, rfl⟩ := u3.out h0 h1
   subst h0
   have h1' : ¬ g < G := by omega
   clear u1 u2 u3
   go_enter Tryz.func34, Tryz.ntmps34
   go_wp2_with (first
    | (go_at_call 33; rw [← hW0]; refine (cT _ hA).mono ?_; rintro e w1 ⟨rfl, hb⟩; replace hA := Below.tr hA hb; replace bx := bx.below hb; clear hb q0 q1 q2 q3; have q0 := bx.1 0 _ rfl; have q3 := bx.1 3 _ rfl)
    | (go_at_call 74; refine (cW _).mono ?_; rintro e w2 ⟨rfl, hb⟩; have hC := (Below.refl w2.heap.size w2).alloc (Nat.le_refl _) (.cells #[.int .i64 K, .int .i64 G, .string B] 115); replace hA := Below.tr (Below.tr hA hb) hC; replace bx := (bx.below hb).below hC; have by3 := boxL_new w2 [.int .i64 K, .int .i64 G, .string B] 115 rfl; clear hb hC q0 q3; have q0 := bx.1 0 _ rfl; have q3 := bx.1 3 _ rfl; have p1 := by3.1 1 _ rfl; have p2 := by3.1 2 _ rfl)
    | (go_at_call 75; refine (cU _).mono ?_; rintro e w3 ⟨a, c, rfl, hI, hb⟩; replace hA := Below.tr hA hb; clear hb))
   exact bodyPost_ret (v := .tuple #[.slice a Y.length c, .int .i64 X]) (by simp [results, Tryz.results34, go_sem]) rfl ⟨a, c, rfl, hI, hA⟩
  ·
   obtain ⟨rfl, rfl⟩ := u2.out h0 h1
   subst h0
   have h1' : g < G := by omega
   clear u1 u2 u3
   go_enter Tryz.func34, Tryz.ntmps34
   go_wp2_with (first
    | (go_at_call 33; rw [← hW0]; refine (cT _ hA).mono ?_; rintro e w1 ⟨rfl, hb⟩; replace hA := Below.tr hA hb; replace bx := bx.below hb; clear hb q0 q1 q2 q3; have q0 := bx.1 0 _ rfl; have q3 := bx.1 3 _ rfl)
    | (go_at_call 74; refine (cW _).mono ?_; rintro e w2 ⟨rfl, hb⟩; have hC := (Below.refl w2.heap.size w2).alloc (Nat.le_refl _) (.cells #[.int .i64 K, .int .i64 G, .string B] 115); replace hA := Below.tr (Below.tr hA hb) hC; replace bx := (bx.below hb).below hC; have by3 := boxL_new w2 [.int .i64 K, .int .i64 G, .string B] 115 rfl; clear hb hC q0 q3; have q0 := bx.1 0 _ rfl; have q3 := bx.1 3 _ rfl; have p1 := by3.1 1 _ rfl; have p2 := by3.1 2 _ rfl)
    | (go_at_call 75; refine (cU _).mono ?_; rintro e w3 ⟨a, c, rfl, hI, hb⟩; replace hA := Below.tr hA hb; clear hb))
   exact bodyPost_ret (v := .tuple #[.slice none 0 0, .int .i64 120]) (by simp [results, Tryz.results34, go_sem]) rfl ⟨none, 0, rfl, IsB_nil _, hA⟩
 ·
  obtain ⟨rfl, rfl⟩ := u1.out h0
  clear u1 u2 u3
  go_enter Tryz.func34, Tryz.ntmps34
  go_wp2_with (first
   | (go_at_call 33; rw [← hW0]; refine (cT _ hA).mono ?_; rintro e w1 ⟨rfl, hb⟩; replace hA := Below.tr hA hb; replace bx := bx.below hb; clear hb q0 q1 q2 q3; have q0 := bx.1 0 _ rfl; have q3 := bx.1 3 _ rfl)
   | (go_at_call 74; refine (cW _).mono ?_; rintro e w2 ⟨rfl, hb⟩; have hC := (Below.refl w2.heap.size w2).alloc (Nat.le_refl _) (.cells #[.int .i64 K, .int .i64 G, .string B] 115); replace hA := Below.tr (Below.tr hA hb) hC; replace bx := (bx.below hb).below hC; have by3 := boxL_new w2 [.int .i64 K, .int .i64 G, .string B] 115 rfl; clear hb hC q0 q3; have q0 := bx.1 0 _ rfl; have q3 := bx.1 3 _ rfl; have p1 := by3.1 1 _ rfl; have p2 := by3.1 2 _ rfl)
   | (go_at_call 75; refine (cU _).mono ?_; rintro e w3 ⟨a, c, rfl, hI, hb⟩; replace hA := Below.tr hA hb; clear hb))
  exact bodyPost_ret (v := .tuple #[.slice none 0 0, .int .i64 X]) (by simp [results, Tryz.results34, go_sem]) rfl ⟨none, 0, rfl, IsB_nil _, hA⟩
def paB (us ns : List Bool) (ps : List ByteArray) (r g m : Int) : Bool := decide (paE us ns ps r g m = 0)
set_option maxRecDepth 20000 in
set_option maxHeartbeats 1000000 in
theorem passes_any (a a' b : Option Addr) (n c n' c' p f : Nat) (us ns : List Bool) (ps : List ByteArray) (r g m : Int) (w : World) (hn : n = us.length) (hn' : n' = ns.length) (hp : p = ps.length) (hB : IsB w a c us) (hB' : IsB w a' c' ns) (hP : IsS w b f ps) :
  Calls Tryz.prog 36 #[.agg #[.slice a n c, .slice a' n' c', .slice b p f, .int .i64 r, .int .i64 g], .int .i64 m] w fun e w' => e = .returned (.bool (paB us ns ps r g m)) ∧ Below w.heap.size w w' := by
 have hA : Below w.heap.size w (w.alloc (.cells #[.slice a n c, .slice a' n' c', .slice b p f, .int .i64 r, .int .i64 g] 40)) := (Below.refl _ _).alloc (Nat.le_refl _) _
 have bx := boxL_new w [.slice a n c, .slice a' n' c', .slice b p f, .int .i64 r, .int .i64 g] 40 rfl
 obtain ⟨W0, hW0⟩ : ∃ W0, W0 = w.alloc (.cells #[.slice a n c, .slice a' n' c', .slice b p f, .int .i64 r, .int .i64 g] 40) := ⟨_, rfl⟩
 rw [← hW0] at hA
 rw [show (w.alloc (.cells [Value.slice a n c, .slice a' n' c', .slice b p f, .int .i64 r, .int .i64 g].toArray 40)) = W0 from hW0.symm] at bx
 have hC : Below w.heap.size w (W0.alloc (.cells #[.int .i64 m] 3)) := hA.alloc hA.size _
 have cC := check_any a a' b n c n' c' p f us ns ps r g (some ⟨W0.heap.size, 0, none⟩) 1 1 [m] (W0.alloc (.cells #[.int .i64 m] 3)) hn hn' hp rfl (hB.below hC) (hB'.below hC) (hP.below hC) (isI_one W0 m)
 have hWs : W0.heap.size = w.heap.size + 1 := by rw [hW0]; simp
 have cC : Calls Tryz.prog 77 #[.agg #[.slice a n c, .slice a' n' c', .slice b p f, .int .i64 r, .int .i64 g], .slice (some ⟨w.heap.size + 1, 0, none⟩) 1 1] (W0.alloc (.cells #[.int .i64 m] 3)) fun e w' => ∃ x1 x2 x3, e = .returned (.tuple #[.agg #[.int .i64 x1, .int .i64 x2, .int .i64 x3], .int .i64 (paE us ns ps r g m)]) ∧ Below w.heap.size w w' := by
  rw [← hWs]
  exact cC.mono fun e w' ⟨he, hb⟩ => ⟨_, _, _, he, Below.tr hC hb⟩
 clear hWs
 obtain ⟨B, hB2⟩ : ∃ B, B = paB us ns ps r g m := ⟨_, rfl⟩
 have HB2 : Hid (B = decide (paE us ns ps r g m = 0)) := hB2
 rw [← hB2]
 generalize paE us ns ps r g m = E at cC HB2
 clear hB2
 clear hn hn' hp hB hB' hP
 have q0 := bx.1 0 _ rfl
 have q1 := bx.1 1 _ rfl
 have q2 := bx.1 2 _ rfl
 have q3 := bx.1 3 _ rfl
 have q4 := bx.1 4 _ rfl
 go_enter Tryz.func36, Tryz.ntmps36
 go_wp2_with (go_at_call 77; rw [← hW0]; refine cC.mono ?_; rintro e w1 ⟨x1, x2, x3, rfl, hb⟩)
 go_ret
 refine ⟨ret_bool ?_, hb.alloc hb.size _⟩
 rw [HB2.out]
 by_cases h : E = 0 <;> simp [h]
theorem RowS.new (W : World) (n : Nat) {Z : Array Value} (hZ : Z = (List.replicate n (Value.string ⟨#[]⟩)).toArray) {g : Nat} (hg : g = W.heap.size) (hn : n ≤ maxLen) : RowS (W.alloc (.cells Z 9)) g n (List.replicate n ByteArray.empty) := by
 subst hg hZ
 refine ⟨_, heap_new W _, ?_, by simp, hn, by simp⟩
 simp
 exact Or.inr rfl
def pgN (bs : List ByteArray) (us : List Bool) (j : Nat) : List ByteArray := (pgL bs us).take j ++ List.replicate (us.length - j) ByteArray.empty
theorem pgN_zero (bs : List ByteArray) (us : List Bool) : pgN bs us 0 = List.replicate us.length ByteArray.empty := by simp [pgN]
theorem pgN_full (bs : List ByteArray) (us : List Bool) : pgN bs us us.length = pgL bs us := by
 simp [pgN]
 rw [List.take_of_length_le (by rw [pgL_length]; exact Nat.le_refl _)]
theorem pgN_length (bs : List ByteArray) (us : List Bool) {j : Nat} (h : j ≤ us.length) : (pgN bs us j).length = us.length := by simp [pgN, pgL_length]; omega
theorem pgN_get (bs : List ByteArray) (us : List Bool) {j : Nat} (h : j < us.length) : (pgN bs us j)[j]? = some ByteArray.empty := by
 unfold pgN
 rw [List.getElem?_append_right (by simp [pgL_length]; omega)]
 rw [List.length_take, pgL_length, Nat.min_eq_left (by omega), Nat.sub_self, List.getElem?_replicate, if_pos (by omega)]
theorem pgN_succ (bs : List ByteArray) (us : List Bool) {j : Nat} {u : Bool} (h : us[j]? = some u) : pgN bs us (j + 1) = (pgN bs us j).set j (if u = true then blk bs j else ByteArray.empty) := by
 have hj := (List.getElem?_eq_some_iff.1 h).1
 unfold pgN
 have hl : ((pgL bs us).take j).length = j := by rw [List.length_take, pgL_length]; omega
 rw [List.take_add_one, pgL_get bs h, List.set_append_right _ _ (by omega), hl, Nat.sub_self, Option.toList_some, List.append_assoc]
 congr 1
 obtain ⟨k, hk⟩ : ∃ k, us.length - j = k + 1 := ⟨us.length - j - 1, by omega⟩
 rw [hk, show us.length - (j + 1) = k by omega, List.replicate_succ]
 rfl
theorem pgN_off (bs : List ByteArray) (us : List Bool) {j : Nat} (h : us[j]? = some false) : pgN bs us (j + 1) = pgN bs us j := by
 have hj := (List.getElem?_eq_some_iff.1 h).1
 rw [pgN_succ bs us h]
 have := pgN_get bs us hj
 obtain ⟨h1, h2⟩ := List.getElem?_eq_some_iff.1 this
 conv => rhs; rw [← List.set_getElem_self h1]
 rw [h2]
 rfl
theorem pgL_small {bs : List ByteArray} (us : List Bool) (h : ∀ s ∈ bs, s.size ≤ maxLen) : ∀ x ∈ pgL bs us, x.size ≤ maxLen := by
 intro x hx
 obtain ⟨i, hi, rfl⟩ := List.mem_map.1 hx
 split
 ·
  unfold blk
  cases hb : bs[i]? with
  | none => exact Nat.zero_le _
  | some y => exact h y (List.mem_of_getElem? hb)
 ·
  exact Nat.zero_le _
theorem OwnT.storeL {base : Nat} {w : World} {a : Option Addr} {cap : Nat} {l : List Bool} (h : OwnT base w a cap l) {k : Nat} (hk : k < base) (i : Nat) (v : Value) : OwnT base (w.setCell ⟨k, i, none⟩ v) a cap l := by
 rcases h with h | ⟨g, h1, h2, cur, hg, hr⟩
 ·
  exact .inl h
 ·
  exact .inr ⟨g, h1, h2, cur, by rw [Below.heap_setCell _ _ _ _ (show g ≠ k by omega)]; exact hg, hr⟩
set_option maxRecDepth 20000 in
set_option maxHeartbeats 2000000 in
theorem wood_any (h : Nat) (a a' : Option Addr) (n n' c c' : Nat) (bs : List ByteArray) (g r m z : Int) (ua : Option Addr) (k uc : Nat) (us : List Bool) (w : World) (hk : k = us.length) (hn : n = bs.length) (hkn : k ≤ n) (hk2 : k ≤ 2048) (hg0 : 0 ≤ g) (hg1 : g ≤ 1099511627776) (hx : BoxL w h [.slice a n c, .slice a' n' c']) (hS : IsS w a c bs) (hU : IsB w ua uc us) :
  Calls Tryz.prog 35 #[.pointer (some ⟨h, 0, none⟩), .agg #[.int .i64 g, .int .i64 r, .int .i64 m, .int .i64 z], .slice ua k uc] w fun e w' => ∃ a1 c1 a3 c3, e = .returned (.agg #[.slice a1 k c1, .slice ua k uc, .slice a3 k c3, .int .i64 r, .int .i64 (g + 1)]) ∧ IsB w' a1 c1 us ∧ IsS w' a3 c3 (pgL bs us) ∧ Below w.heap.size w w' := by
 obtain ⟨W0, hW0⟩ : ∃ W0, W0 = (w.alloc (.cells #[.int .i64 g, .int .i64 r, .int .i64 m, .int .i64 z] 35)).alloc (.cells #[.slice none 0 0, .slice none 0 0, .slice none 0 0, .int .i64 0, .int .i64 0] 40) := ⟨_, rfl⟩
 have HB : Below w.heap.size w W0 := by rw [hW0]; exact ((Below.refl _ _).alloc (Nat.le_refl _) _).alloc (by simp) _
 have bS : BoxL W0 w.heap.size [.int .i64 g, .int .i64 r, .int .i64 m, .int .i64 z] := by rw [hW0]; exact (boxL_new w _ _ rfl).alloc _
 have bW : BoxL W0 (w.heap.size + 1) [.slice none 0 0, .slice none 0 0, .slice none 0 0, .int .i64 0, .int .i64 0] := by rw [hW0]; exact boxL_new _ _ _ (by simp)
 have hWs : W0.heap.size = w.heap.size + 2 := by rw [hW0]; simp
 obtain ⟨Z, hmk, hZ⟩ : ∃ Z : Array Value, (∀ W : World, (Instr.makeSlice 22 (.int .i64 k) (.int .i64 k)).run Tryz.prog W = .ok (.slice (some ⟨W.heap.size, 0, none⟩) k k) (W.alloc (.cells Z 9))) ∧ Hid (Z = (List.replicate k (Value.string ⟨#[]⟩)).toArray) :=
  ⟨madeCells #[.string ⟨#[]⟩] k, fun W => run_make_row' (P := Tryz.prog) 22 9 (.string ⟨#[]⟩) 16 Tryz.underlying22 Tryz.info9 rfl .i64 .i64 k (by omega) (by omega) W, made_one _ k⟩
 have HR : Hid (RowS (W0.alloc (.cells Z 9)) W0.heap.size k (pgN bs us 0)) := by
  show RowS _ _ _ _
  rw [pgN_zero, ← hk]
  exact RowS.new W0 k hZ.out rfl (by unfold maxLen; omega)
 have hx0 := hx.below HB
 have HS : Hid (IsS W0 a c bs) := hS.below HB
 have HU : Hid (IsB W0 ua uc us) := hU.below HB
 have HN : Hid (n = bs.length) := hn
 have HK : Hid (k = us.length) := hk
 have hsm : Hid (∀ x ∈ pgL bs us, x.size ≤ maxLen) := pgL_small us (fun s hs => by
  obtain ⟨i, hi, rfl⟩ := List.getElem_of_mem hs
  obtain ⟨_, _, _, _, _, hsz⟩ := hS.2.2 i _ (List.getElem?_eq_getElem hi)
  exact hsz)
 have hgw : IntKind.i64.wrap (g + 1) = g + 1 := i64_in _ (by omega) (by omega)
 have hhl : h < W0.heap.size := hx0.lt (by simp)
 clear hn hk hx hS hU
 go_enter Tryz.func35, Tryz.ntmps35
 go_wp2
 rw [← hW0]
 go_loopw [16] (fun v wr => ∃ j : Nat, j ≤ k ∧ v = .int .i64 j ∧ RowS wr (w.heap.size + 2) k (pgN bs us j) ∧ Below W0.heap.size W0 wr) (fun v _ => k - (intOf v).toNat)
 case atStart => exact ⟨0, by omega, rfl, by rw [← hWs]; exact HR.out, (Below.refl _ _).alloc (Nat.le_refl _) _⟩
 case round =>
  obtain ⟨j, hj, rfl, hrow, hbel⟩ := hrel
  have HW : Hid (RowS wr (w.heap.size + 2) k (pgN bs us j)) := hrow
  clear hrow HR
  by_cases hlt : j < k
  ·
   have hlt' : (j : Int) < k := by omega
   have hjn : (j : Int) < n := by omega
   obtain ⟨u, hu⟩ : ∃ u, us[j]? = some u := ⟨_, List.getElem?_eq_getElem (by rw [← HK.out]; exact hlt)⟩
   obtain ⟨bu, ou, rfl, _, du⟩ := HU.out.2.2 j u hu
   replace du := cell_below hbel du
   obtain ⟨x, hx⟩ : ∃ x, bs[j]? = some x := ⟨_, List.getElem?_eq_getElem (by rw [← HN.out]; omega)⟩
   obtain ⟨bb, ob, rfl, _, dx, _⟩ := HS.out.2.2 j x hx
   replace dx := cell_below hbel dx
   obtain ⟨hcy, hfy⟩ := HW.out.cell (pgN_get bs us (by rw [← HK.out]; exact hlt))
   have bk : Hid (blk bs j = x) := by show blk bs j = x; unfold blk; rw [hx]; rfl
   have hx1 := hx0.below hbel
   have z0 := hx1.1 0 _ rfl
   have nxt : Hid (pgN bs us (j + 1) = (pgN bs us j).set j (if u = true then blk bs j else ByteArray.empty)) := pgN_succ bs us hu
   have nof : Hid (u = false → pgN bs us (j + 1) = pgN bs us j) := fun h => pgN_off bs us (by rw [hu, h])
   have hlen : Hid (j < (pgN bs us j).length) := by show _ < _; rw [pgN_length bs us (by rw [← HK.out]; omega), ← HK.out]; exact hlt
   clear hu hx hx1
   cases u with
   | true =>
    have hset : Hid (RowS (wr.setCell ⟨w.heap.size + 2, j, none⟩ (.string x)) (w.heap.size + 2) k (pgN bs us (j + 1))) := by
     show RowS _ _ _ _
     rw [nxt.out, if_pos rfl, bk.out]
     exact HW.out.set hlen.out x
    clear nxt nof
    go_wp2
    go_roundw
    case rel => exact ⟨j + 1, by omega, by go_num, hset.out, hbel.setCell (p := ⟨w.heap.size + 2, j, none⟩) (by rw [hWs]; exact Nat.le_refl _) _⟩
    case measure => simp [intOf]; omega
   | false =>
    have hset : Hid (RowS wr (w.heap.size + 2) k (pgN bs us (j + 1))) := by
     show RowS _ _ _ _
     rw [nof.out rfl]
     exact HW.out
    clear nxt nof
    go_wp2
    go_roundw
    case rel => exact ⟨j + 1, by omega, by go_num, hset.out, hbel⟩
    case measure => simp [intOf]; omega
  ·
   obtain rfl : j = k := by omega
   have HP : Hid (RowS wr (w.heap.size + 2) j (pgL bs us)) := by
    show RowS _ _ _ _
    have := HW.out
    rw [HK.out, pgN_full] at this
    rw [HK.out]
    exact this
   have cC := clone_any ua uc j us wr HK.out (HU.out.below hbel) (by omega)
   have bS1 := bS.below hbel
   have bW1 := bW.below hbel
   have HB1 := Below.tr HB hbel
   clear HW
   go_wp2_with (go_at_call 76; refine cC.mono ?_; rintro e w1 ⟨a1, c1, rfl, ho, hb⟩; have hC := (Below.refl w1.heap.size w1).alloc (Nat.le_refl _) (.cells #[.slice a1 j c1, .slice ua j uc] 38); replace HB1 := Below.tr (Below.tr HB1 hb) hC; replace bS1 := (bS1.below hb).below hC; replace bW1 := (bW1.below hb).below hC; have bA := boxL_new w1 [.slice a1 j c1, .slice ua j uc] 38 rfl; have O1 : Hid (OwnT wr.heap.size _ a1 c1 us) := ho.below hC; replace HP : Hid (RowS _ (w.heap.size + 2) j (pgL bs us)) := (HP.out.below hb).below hC; clear ho hb hC; have y0 := bA.1 0 _ rfl; have y1 := bA.1 1 _ rfl; have s0 := bS1.1 0 _ rfl; have s1 := bS1.1 1 _ rfl; have q0 := bW1.1 0 _ rfl; have q1 := bW1.1 1 _ rfl; have q2 := bW1.1 2 _ rfl; have q3 := bW1.1 3 _ rfl; have q4 := bW1.1 4 _ rfl; have f0 := bW1.2 0 (by simp); have f1 := bW1.2 1 (by simp); have f2 := bW1.2 2 (by simp); have f3 := bW1.2 3 (by simp); have f4 := bW1.2 4 (by simp))
   have hwl : w.heap.size + 2 ≤ wr.heap.size := by rw [← hWs]; exact hbel.size
   refine bodyPost_ret (v := .agg #[.slice a1 j c1, .slice ua j uc, .slice (some ⟨w.heap.size + 2, 0, none⟩) j j, .int .i64 r, .int .i64 (g + 1)]) (by simp [results, Tryz.results35, go_sem, q0, q1, q2, q3, q4]) rfl ⟨a1, c1, _, _, rfl, ?_, ?_, Below.setL (h := w.heap.size + 1) (Nat.le_succ _) [.slice a1 j c1, .slice ua j uc, .slice (some ⟨w.heap.size + 2, 0, none⟩) j j, .int .i64 r, .int .i64 (g + 1)] 0 _ HB1⟩
   ·
    have hk1 : w.heap.size + 1 < wr.heap.size := by omega
    exact (((((O1.out.storeL hk1 0 _).storeL hk1 1 _).storeL hk1 2 _).storeL hk1 3 _).storeL hk1 4 _).isB
   ·
    have hk1 : w.heap.size + 2 ≠ w.heap.size + 1 := by omega
    exact (((((HP.out.setOther hk1).setOther hk1).setOther hk1).setOther hk1).setOther hk1).isS hsm.out
end Go.Proofs.YtaobfgplheoefaaGreat
namespace Go.Proofs.YtaobfgplheoefaaGreat
open Go.RowKit Plain Go.ChangeShapes Go.WideShapes
set_option linter.unusedVariables false
def IsC (w : World) (a : Option Addr) (c : Nat) (cs : List Chg) : Prop :=
 cs.length ≤ c ∧ c ≤ maxLen ∧ ∀ (j : Nat) x, cs[j]? = some x → ∃ b o, a = some ⟨b, o, none⟩ ∧ b < w.heap.size ∧ w.cell? ⟨b, o + j * 3, none⟩ = some (.string x.1) ∧ w.cell? ⟨b, o + j * 3 + 1, none⟩ = some (.string x.2.1) ∧ w.cell? ⟨b, o + j * 3 + 2, none⟩ = some (.bool x.2.2) ∧ x.1.size ≤ maxLen ∧ x.2.1.size ≤ maxLen
theorem IsC.texts {w : World} {a : Option Addr} {c : Nat} {cs : List Chg} (h : IsC w a c cs) {j : Nat} {x : Chg} (hx : cs[j]? = some x) : x.1.size ≤ maxLen ∧ x.2.1.size ≤ maxLen := by
 obtain ⟨_, _, _, _, _, _, _, hs⟩ := h.2.2 j x hx
 exact hs
end Go.Proofs.YtaobfgplheoefaaGreat
namespace Go.Proofs.YtaobfgplheoefaaGreat
open Go.RowKit Plain
set_option linter.unusedVariables false
def isNumR (n : Int) : Bool := decide (0 ≤ n) && decide (n < 8)
theorem isNumR_any (g : Int) (w : World) :
  Calls Tryz.prog 132 #[.int .i64 g] w fun e w' => e = .returned (.bool (isNumR g)) ∧ w = w' := by
 by_cases h : 0 ≤ g
 ·
  go_enter Tryz.func132, Tryz.ntmps132
  go_wp2
  go_ret
  exact ⟨ret_bool (by simp [isNumR, h]), rfl⟩
 ·
  go_enter Tryz.func132, Tryz.ntmps132
  go_wp2
  go_ret
  exact ⟨ret_bool (by rw [isNumR, decide_eq_false (by omega)]; rfl), rfl⟩
set_option maxHeartbeats 1000000 in
theorem ringGet_any (s : ByteArray) (g : Int) (w : World) (hs : s.size ≤ maxLen) :
  Calls Tryz.prog 78 #[.string s, .int .i64 g] w fun e w' => e = .returned (.tuple #[.int .i64 (rgN s g), .string (rgB s g), .int .i64 (rgE s g)]) ∧ Below w.heap.size w w' := by
 have c1 : ∀ W : World, Calls Tryz.prog 74 #[.string s, .slice (some ⟨W.heap.size, 0, none⟩) 1 1] (W.alloc (.cells #[.int .i64 5] 3)) fun e w' => e = .returned (.tuple #[.agg #[.int .i64 (wantK s [5]), .int .i64 (wantG s [5]), .string (wantB s [5])], .int .i64 (wantE s [5])]) ∧ Below W.heap.size W w' := by
  intro W
  exact (want_any s _ 1 [5] _ hs (isI_one W 5)).mono fun e w' ⟨he, hb⟩ => ⟨he, below_box hb⟩
 have eE : wantE s [5] = if readE s = 0 then (if readK s = 5 then 0 else 40) else readE s := by unfold wantE; simp
 obtain ⟨K, hK⟩ : ∃ x, x = wantK s [5] := ⟨_, rfl⟩
 obtain ⟨G, hG⟩ : ∃ x, x = wantG s [5] := ⟨_, rfl⟩
 obtain ⟨B, hBB⟩ : ∃ x, x = wantB s [5] := ⟨_, rfl⟩
 obtain ⟨E, hE⟩ : ∃ x, x = wantE s [5] := ⟨_, rfl⟩
 rw [← hK, ← hG, ← hBB, ← hE] at c1
 by_cases h0 : E = 0
 ·
  have hr : readE s = 0 ∧ readK s = 5 := by
   rw [hE, eE] at h0
   by_cases a : readE s = 0
   ·
    rw [if_pos a] at h0
    by_cases b : readK s = 5
    ·
     exact ⟨a, b⟩
    ·
     rw [if_neg b] at h0; omega
   ·
    rw [if_neg a] at h0; exact absurd h0 a
  have eB : B = readB s := by rw [hBB, wantB, if_pos (hE.symm.trans h0)]
  have eG : G = readG s := by rw [hG, wantG, if_pos (hE.symm.trans h0)]
  have hl : B.size ≤ 4000 := by
   rw [eB]
   have := (rightP_iff _ _ _).1 (page_once hr.1).1
   omega
  have hE' : rgE s g = if G = g then (if 1 ≤ B.size then (if B.size ≤ 481 then (if getV B 0 1 ≤ 7 then 0 else 4) else 4) else 4) else 4 := by rw [rgE, if_pos hr.1, if_pos hr.2, eG, eB]
  have zN : rgN s g = if rgE s g = 0 then getV B 0 1 else 0 := by rw [rgN, eB]
  have zB : rgB s g = if rgE s g = 0 then B.extract 1 B.size else ⟨#[]⟩ := by rw [rgB, eB]
  rw [zN, zB]
  obtain ⟨X, hX⟩ : ∃ x, x = rgE s g := ⟨_, rfl⟩
  rw [← hX] at hE' ⊢
  clear eB eG hK hG hBB hE eE hr zN zB hX
  subst h0
  have bad : ∀ v : Value, v = .tuple #[.int .i64 0, .string ⟨#[]⟩, .int .i64 4] → X = 4 → v = .tuple #[.int .i64 (if X = 0 then getV B 0 1 else 0), .string (if X = 0 then B.extract 1 B.size else ⟨#[]⟩), .int .i64 X] := by
   rintro v rfl rfl
   rfl
  by_cases h1 : G = g
  ·
   rw [if_pos h1] at hE'
   by_cases h3 : B.size ≤ 481
   ·
    by_cases h2 : 1 ≤ B.size
    ·
     rw [if_pos h2, if_pos h3] at hE'
     have c2 : ∀ W, Calls Tryz.prog 131 #[.string B, .int .i64 0, .int .i64 1] W fun e w' => e = .returned (.tuple #[.int .i64 (getV B 0 1), .int .i64 1, .int .i64 0]) ∧ W = w' := by
      intro W
      have e : getE B 0 1 = 0 := getE_zero ⟨by omega, by omega, by omega, by omega⟩
      have := get_any B 0 1 W (by unfold maxLen; omega)
      rw [getR, getT, e] at this
      exact this
     have hv := getV_bd B 0 1
     have hp : pw 1 = 256 := by decide
     by_cases h6 : getV B 0 1 ≤ 7
     ·
      rw [if_pos h6] at hE'
      have c3 := fun W => isNumR_any (getV B 0 1) W
      rw [show isNumR (getV B 0 1) = true by simp [isNumR]; omega] at c3
      subst hE'
      rw [if_pos rfl, if_pos rfl]
      clear hv hp h6 bad
      generalize getV B 0 1 = x at *
      subst h1
      go_enter Tryz.func78, Tryz.ntmps78
      go_wp2_with (first
   | (go_at_call 74; refine (c1 _).mono ?_; rintro e w1 ⟨rfl, hb⟩; have hB := hb.alloc hb.size (.cells #[.int .i64 K, .int .i64 G, .string B] 115); have P := box3_new w1 (.int .i64 K) (.int .i64 G) (.string B) 115; obtain ⟨⟨p0, p1, p2⟩, -⟩ := id P; clear hb)
   | (go_at_call 131; refine (c2 _).mono ?_; rintro e w' ⟨rfl, rfl⟩)
   | (go_at_call 132; refine (c3 _).mono ?_; rintro e w' ⟨rfl, rfl⟩)
       )
      go_region
      go_wp2
      go_ret3
      exact ⟨rfl, hB.drew⟩
     ·
      rw [if_neg h6] at hE'
      have c3 := fun W => isNumR_any (getV B 0 1) W
      rw [show isNumR (getV B 0 1) = false by simp [isNumR]; omega] at c3
      rw [← bad _ rfl hE']
      clear hv hp h6 bad
      generalize getV B 0 1 = x at *
      subst h1
      go_enter Tryz.func78, Tryz.ntmps78
      go_wp2_with (first
   | (go_at_call 74; refine (c1 _).mono ?_; rintro e w1 ⟨rfl, hb⟩; have hB := hb.alloc hb.size (.cells #[.int .i64 K, .int .i64 G, .string B] 115); have P := box3_new w1 (.int .i64 K) (.int .i64 G) (.string B) 115; obtain ⟨⟨p0, p1, p2⟩, -⟩ := id P; clear hb)
   | (go_at_call 131; refine (c2 _).mono ?_; rintro e w' ⟨rfl, rfl⟩)
   | (go_at_call 132; refine (c3 _).mono ?_; rintro e w' ⟨rfl, rfl⟩)
       )
      go_ret3
      exact ⟨rfl, hB⟩
    ·
     rw [if_neg h2] at hE'
     have c2 : ∀ W, Calls Tryz.prog 131 #[.string B, .int .i64 0, .int .i64 1] W fun e w' => e = .returned (.tuple #[.int .i64 0, .int .i64 0, .int .i64 (getE B 0 1)]) ∧ W = w' := by
      intro W
      have e : ¬ getE B 0 1 = 0 := fun h => by have := getE_ok h; omega
      have := get_any B 0 1 W (by unfold maxLen; omega)
      rw [getR, getT, if_neg e, if_neg e] at this
      exact this
     have hx : (getE B 0 1 == 0) = false := by rw [beq_eq_false_iff_ne]; intro h; have := getE_ok h; omega
     have hx2 : ¬ getE B 0 1 = 0 := fun h => by have := getE_ok h; omega
     rw [← bad _ rfl hE']
     clear bad hE'
     generalize getE B 0 1 = x at *
     subst h1
     go_enter Tryz.func78, Tryz.ntmps78
     go_wp2_with (first
   | (go_at_call 74; refine (c1 _).mono ?_; rintro e w1 ⟨rfl, hb⟩; have hB := hb.alloc hb.size (.cells #[.int .i64 K, .int .i64 G, .string B] 115); have P := box3_new w1 (.int .i64 K) (.int .i64 G) (.string B) 115; obtain ⟨⟨p0, p1, p2⟩, -⟩ := id P; clear hb)
      | (go_at_call 131; refine (c2 _).mono ?_; rintro e w' ⟨rfl, rfl⟩))
     go_ret3
     exact ⟨rfl, hB⟩
   ·
    have hX : X = 4 := by
     rw [hE']
     by_cases h2 : 1 ≤ B.size
     ·
      rw [if_pos h2, if_neg h3]
     ·
      rw [if_neg h2]
    rw [← bad _ rfl hX]
    clear bad hE' hX
    subst h1
    go_enter Tryz.func78, Tryz.ntmps78
    go_wp2_with (first
   | (go_at_call 74; refine (c1 _).mono ?_; rintro e w1 ⟨rfl, hb⟩; have hB := hb.alloc hb.size (.cells #[.int .i64 K, .int .i64 G, .string B] 115); have P := box3_new w1 (.int .i64 K) (.int .i64 G) (.string B) 115; obtain ⟨⟨p0, p1, p2⟩, -⟩ := id P; clear hb)
     )
    go_ret3
    exact ⟨rfl, hB⟩
  ·
   rw [if_neg h1] at hE'
   rw [← bad _ rfl hE']
   clear bad hE'
   have h1' : (G == g) = false := by simpa using h1
   go_enter Tryz.func78, Tryz.ntmps78
   go_wp2_with (first
   | (go_at_call 74; refine (c1 _).mono ?_; rintro e w1 ⟨rfl, hb⟩; have hB := hb.alloc hb.size (.cells #[.int .i64 K, .int .i64 G, .string B] 115); have P := box3_new w1 (.int .i64 K) (.int .i64 G) (.string B) 115; obtain ⟨⟨p0, p1, p2⟩, -⟩ := id P; clear hb)
    )
   go_ret3
   exact ⟨rfl, hB⟩
 ·
  have hE' : rgE s g = E := by
   rw [hE, eE, rgE]
   rw [hE, eE] at h0
   by_cases a : readE s = 0
   ·
    rw [if_pos a, if_pos a]
    rw [if_pos a] at h0
    by_cases b : readK s = 5
    ·
     rw [if_pos b] at h0; exact absurd rfl h0
    ·
     rw [if_neg b, if_neg b]
   ·
    rw [if_neg a, if_neg a]
  rw [rgN, rgB, hE', if_neg h0, if_neg h0]
  have h0' : (E == 0) = false := by simpa using h0
  clear hE' hK hG hBB hE eE
  go_enter Tryz.func78, Tryz.ntmps78
  go_wp2_with (first
   | (go_at_call 74; refine (c1 _).mono ?_; rintro e w1 ⟨rfl, hb⟩; have hB := hb.alloc hb.size (.cells #[.int .i64 K, .int .i64 G, .string B] 115); have P := box3_new w1 (.int .i64 K) (.int .i64 G) (.string B) 115; obtain ⟨⟨p0, p1, p2⟩, -⟩ := id P; clear hb)
   )
  go_ret3
  exact ⟨rfl, hB⟩
set_option maxHeartbeats 1000000 in
theorem ringSame_any (a a' : Option Addr) (c c' : Nat) (l m : List ByteArray) (w : World) (hB : IsS w a c l) (hB' : IsS w a' c' m) :
  Calls Tryz.prog 42 #[.slice a l.length c, .slice a' m.length c'] w fun e w' => e = .returned (.bool (decide (l = m))) ∧ Below w.heap.size w w' := by
 obtain ⟨n, hn⟩ : ∃ n, n = l.length := ⟨_, rfl⟩
 obtain ⟨n', hn'⟩ : ∃ n, n = m.length := ⟨_, rfl⟩
 have HB : Hid (IsS w a c l) := hB
 have HB' : Hid (IsS w a' c' m) := hB'
 have HE : Hid (n = l.length) := hn
 have HE' : Hid (n' = m.length) := hn'
 have hnb : n ≤ 9223372036854775807 := by have := hB.1; have := hB.2.1; unfold maxLen at *; omega
 rw [← hn, ← hn']
 clear hB hB' hn hn'
 by_cases h : n = n'
 ·
  have h' : (n : Int) = n' := by omega
  subst h
  go_enter Tryz.func42, Tryz.ntmps42
  go_wp2
  go_loopw [13] (fun v wr => ∃ j : Nat, j ≤ n ∧ v = .int .i64 j ∧ (∀ i, i < j → l[i]? = m[i]?) ∧ Below w.heap.size w wr) (fun v _ => n - (intOf v).toNat)
  case atStart => exact ⟨0, by omega, rfl, fun i hi => by omega, Below.refl _ _⟩
  case round =>
   obtain ⟨j, hj, rfl, hs, hbel⟩ := hrel
   have HS : Hid (∀ i, i < j → l[i]? = m[i]?) := hs
   clear hs
   by_cases hlt : j < n
   ·
    have hlt' : (j : Int) < n := by omega
    obtain ⟨q, hq⟩ : ∃ q, Hid (l[j]? = some q) := ⟨_, List.getElem?_eq_getElem (by rw [← HE.out]; exact hlt)⟩
    obtain ⟨r, hr⟩ : ∃ q, Hid (m[j]? = some q) := ⟨_, List.getElem?_eq_getElem (by rw [← HE'.out]; exact hlt)⟩
    obtain ⟨b, o, rfl, hbl, hc0, _⟩ := HB.out.2.2 j q hq.out
    obtain ⟨b', o', rfl, hbl', hc0', _⟩ := HB'.out.2.2 j r hr.out
    have hc := cell_below hbel hc0
    have hc' := cell_below hbel hc0'
    by_cases e : q = r
    ·
     have e1 := str_ne_false e
     go_wp2
     go_region
     go_wp2
     go_roundw
     case rel =>
      refine ⟨j + 1, by omega, by go_num, fun i hi => ?_, hbel.drew⟩
      by_cases ei : i = j
      ·
       rw [ei, hq.out, hr.out, e]
      ·
       exact HS.out i (by omega)
     case measure => simp [intOf]; omega
    ·
     have e1 := str_ne_true e
     have hne : Hid (decide (l = m) = false) := by
      show _ = _
      rw [decide_eq_false_iff_not]
      rintro rfl
      have := hq.out
      rw [hr.out] at this
      exact e (Option.some.inj this).symm
     go_wp2
     go_region
     go_wp2
     go_ret
     exact ⟨ret_bool hne.out.symm, hbel.drew⟩
   ·
    obtain rfl : j = n := by omega
    have heq : Hid (decide (l = m) = true) := by
     show _ = _
     rw [decide_eq_true_eq]
     apply List.ext_getElem?
     intro i
     by_cases hi : i < j
     ·
      exact HS.out i hi
     ·
      rw [List.getElem?_eq_none (by rw [← HE.out]; omega), List.getElem?_eq_none (by rw [← HE'.out]; omega)]
    go_wp2
    go_ret
    exact ⟨ret_bool heq.out.symm, hbel⟩
 ·
  have h' : ((n : Int) != n') = true := by simp; omega
  have hne : Hid (decide (l = m) = false) := by
   show _ = _
   rw [decide_eq_false_iff_not]
   rintro rfl
   exact h (HE.out.trans HE'.out.symm)
  go_enter Tryz.func42, Tryz.ntmps42
  go_wp2
  go_ret
  exact ⟨ret_bool hne.out.symm, Below.refl _ _⟩
set_option maxRecDepth 20000 in
set_option maxHeartbeats 1000000 in
theorem ringScan_any (g : Int) (a : Option Addr) (c n : Nat) (xs : List ByteArray) (w : World) (hn : n = xs.length) (hS : IsS w a c xs) (hl : n ≤ 4096) :
  Calls Tryz.prog 37 #[.int .i64 g, .slice a n c] w fun e w' => ∃ a' c', e = .returned (.slice a' (scanR g 0 xs).length c') ∧ IsS w' a' c' (scanR g 0 xs) ∧ Below w.heap.size w w' := by
 have HS : Hid (IsS w a c xs) := hS
 have HN : Hid (n = xs.length) := hn
 have fin : ∀ (j : Nat) (b : Value) (wr : World), wr.ownsRow w.heap.size 9 1 b j (((xs.take j).map fun x => rgB x g).map Value.string) → scanR g 0 xs = (xs.take j).map (fun x => rgB x g) → ∃ a' c', b = .slice a' (scanR g 0 xs).length c' ∧ IsS wr a' c' (scanR g 0 xs) := by
  intro j b wr hown hsc
  obtain ⟨a', c', hb, hj, hI, _⟩ := owns_S hown (fun x hx => by
   obtain ⟨y, _, rfl⟩ := List.mem_map.1 hx
   have := rgB_size y g
   unfold maxLen; omega)
  rw [hsc]
  refine ⟨a', c', ?_, hI⟩
  rw [← hj]; exact hb
 have FIN : Hid _ := fin
 clear hn hS fin
 go_enter Tryz.func37, Tryz.ntmps37
 go_wp2
 go_step3
 go_wp2
 go_step3
 go_wp2
 go_loopw [5, 13] (fun b v wr => ∃ j : Nat, j ≤ n ∧ v = .int .i64 j ∧ wr.ownsRow w.heap.size 9 1 b j (((xs.take j).map fun x => rgB x g).map Value.string) ∧ Hid (AllR g xs j) ∧ Below w.heap.size w wr) (fun _ v _ => n - (intOf v).toNat)
 case atStart => exact ⟨0, by omega, rfl, World.ownsRow_nil _ _ _ _, fun i x hi => by omega, Below.refl _ _⟩
 case round =>
  obtain ⟨j, hj, rfl, hown, hAll, hB⟩ := hrel
  by_cases hlt : j < n
  ·
   obtain ⟨x, hx⟩ : ∃ x, xs[j]? = some x := ⟨_, List.getElem?_eq_getElem (by rw [← HN.out]; exact hlt)⟩
   obtain ⟨bk, o, rfl, hbk, d0, hxs⟩ := HS.out.2.2 j x hx
   replace d0 := cell_below hB d0
   have c1 := fun W => ringGet_any x g W hxs
   have hjn : (j : Int) < n := by omega
   have HX : Hid (xs[j]? = some x) := hx
   have hE : Hid (rgE x g = rgE x g) := rfl
   obtain ⟨E, hEE⟩ : ∃ E, E = rgE x g := ⟨_, rfl⟩
   obtain ⟨N, hNN⟩ : ∃ N, N = rgN x g := ⟨_, rfl⟩
   obtain ⟨B, hBB⟩ : ∃ B, B = rgB x g := ⟨_, rfl⟩
   rw [← hEE, ← hNN, ← hBB] at c1
   have stop : Hid (¬ (E = 0 ∧ N = j) → scanR g 0 xs = (xs.take j).map (fun x => rgB x g)) := fun h => scan_stop hAll.out (fun y hy => by
    rw [HX.out] at hy
    obtain rfl := Option.some.inj hy
    rw [← hEE, ← hNN]; exact h)
   have goes : Hid (E = 0 ∧ N = j → AllR g xs (j + 1)) := fun h i y hi hy => by
    by_cases hij : i = j
    ·
     subst hij
     rw [HX.out] at hy
     obtain rfl := Option.some.inj hy
     rw [← hEE, ← hNN]; exact h
    ·
     exact hAll.out i y (by omega) hy
   have hnext : Hid ((xs.take (j + 1)).map (fun x => rgB x g) = (xs.take j).map (fun x => rgB x g) ++ [B]) := by
    show _ = _
    rw [List.take_add_one, HX.out, Option.toList_some, List.map_append, hBB]
    rfl
   replace hown : Hid _ := hown
   clear hx hE hEE hNN hBB
   by_cases h0 : E = 0
   ·
    by_cases h1 : N = j
    ·
     have HG : Hid (AllR g xs (j + 1)) := goes.out ⟨h0, h1⟩
     subst h0 h1
     clear goes stop
     go_wp2_with (first
      | (go_at_call 78; refine (c1 _).mono ?_; rintro e w2 ⟨rfl, hb⟩; have hB2 := Below.tr hB hb; have hown2 := (Turns.of_below (P := fun _ => False) hb).owns hown.out (fun _ _ h => h); obtain ⟨g', cap, w3, hrun, hown3, hgr, hat, hge, hlt'⟩ := push_S w2 w.heap.size u5 j _ B hown2 hB2.size (by omega); have hB3 : Below w.heap.size w w3 := (hB2.alloc hB2.size _).grown hgr (by simp; exact Nat.le_succ_of_le hB2.size) (fun k hk => (hown2.lt k hk).1); have HO3 : Hid _ := hown3; clear hb hown2 hgr hat hge hlt' hown3)
      | (at_builtin; refine Lib.wpList_append_run _ rfl _ _ _ _ rfl _ _ rfl rfl _ _ hrun ?_))
     go_roundw
     case rel => exact ⟨j + 1, by omega, by go_num, by rw [hnext.out]; exact HO3.out, HG.out, hB3⟩
     case measure => simp [intOf]; omega
    ·
     have h1' : (N == (j : Int)) = false := by simpa using h1
     have HF : Hid (scanR g 0 xs = (xs.take j).map (fun x => rgB x g)) := stop.out (fun h => h1 h.2)
     subst h0
     clear goes stop hnext
     go_wp2_with (go_at_call 78; refine (c1 _).mono ?_; rintro e w2 ⟨rfl, hb⟩; have hB2 := Below.tr hB hb; have hown2 := (Turns.of_below (P := fun _ => False) hb).owns hown.out (fun _ _ h => h); clear hb)
     obtain ⟨a', c', e, hI⟩ := FIN.out j _ _ hown2 HF.out
     try rw [Exit.noGoto_ret]
     go_ret
     exact ⟨a', c', by rw [← e]; rfl, hI, hB2⟩
   ·
    have h0' : (E == 0) = false := by simpa using h0
    have HF : Hid (scanR g 0 xs = (xs.take j).map (fun x => rgB x g)) := stop.out (fun h => h0 h.1)
    clear goes stop hnext
    go_wp2_with (go_at_call 78; refine (c1 _).mono ?_; rintro e w2 ⟨rfl, hb⟩; have hB2 := Below.tr hB hb; have hown2 := (Turns.of_below (P := fun _ => False) hb).owns hown.out (fun _ _ h => h); clear hb)
    obtain ⟨a', c', e, hI⟩ := FIN.out j _ _ hown2 HF.out
    try rw [Exit.noGoto_ret]
    go_ret
    exact ⟨a', c', by rw [← e]; rfl, hI, hB2⟩
  ·
   obtain rfl : j = n := by omega
   have HF : Hid (scanR g 0 xs = (xs.take j).map (fun x => rgB x g)) := by
    have := hAll.out
    show _ = _
    have hl := HN.out
    exact scan_stop this (fun x hx => by rw [List.getElem?_eq_none (by omega)] at hx; cases hx)
   replace hown : Hid _ := hown
   go_wp2
   obtain ⟨a', c', e, hI⟩ := FIN.out j _ _ hown.out HF.out
   try rw [Exit.noGoto_ret]
   go_ret
   exact ⟨a', c', by rw [← e]; rfl, hI, hB⟩
def FoundA (E : Int) (bs : List ByteArray) (t : ByteArray) (i : Nat) (w' : World) (v : Value) : Prop :=
 ∃ a1 c1 a2 c2 a3 c3 a4 c4, v = .agg #[.int .i64 (mtN E (suG t)), .int .i64 (mtN E (suR t)), .int .i64 (mtN E (suM t)), .int .i64 (mtN E (suZ t)), .int .i64 (mtI E i), .slice a1 (mtL E (wdU bs t)).length c1, .slice a2 (mtL E (wdU bs t)).length c2, .slice a3 (mtL E (pgL bs (wdU bs t))).length c3, .int .i64 (mtN E (suR t)), .int .i64 (mtN E (suG t + 1)), .slice a4 (mtL E (scanR (suG t) 0 ((bs.take 10).drop 2))).length c4] ∧ IsB w' a1 c1 (mtL E (wdU bs t)) ∧ IsB w' a2 c2 (mtL E (wdU bs t)) ∧ IsS w' a3 c3 (mtL E (pgL bs (wdU bs t))) ∧ IsS w' a4 c4 (mtL E (scanR (suG t) 0 ((bs.take 10).drop 2)))
def noFound : Value := .agg #[.int .i64 0, .int .i64 0, .int .i64 0, .int .i64 0, .int .i64 0, .slice none 0 0, .slice none 0 0, .slice none 0 0, .int .i64 0, .int .i64 0, .slice none 0 0]
theorem foundA_no {E : Int} (h : ¬ E = 0) (bs : List ByteArray) (t : ByteArray) (i : Nat) (w' : World) : FoundA E bs t i w' noFound := by
 unfold FoundA noFound
 rw [mtN_no h, mtN_no h, mtN_no h, mtN_no h, mtN_no h, mtI_no h, mtL_no h, mtL_no h, mtL_no h]
 exact ⟨none, 0, none, 0, none, 0, none, 0, rfl, IsB_nil _, IsB_nil _, IsS_nil _, IsS_nil _⟩
theorem foundA_ok {E : Int} (h : E = 0) {bs : List ByteArray} {t : ByteArray} {i : Nat} {w' : World} {a1 a2 a3 a4 : Option Addr} {c1 c2 c3 c4 k l : Nat} (hk : k = (wdU bs t).length) (hl : l = (scanR (suG t) 0 ((bs.take 10).drop 2)).length) (h1 : IsB w' a1 c1 (wdU bs t)) (h2 : IsB w' a2 c2 (wdU bs t)) (h3 : IsS w' a3 c3 (pgL bs (wdU bs t))) (h4 : IsS w' a4 c4 (scanR (suG t) 0 ((bs.take 10).drop 2))) :
  FoundA E bs t i w' (.agg #[.int .i64 (suG t), .int .i64 (suR t), .int .i64 (suM t), .int .i64 (suZ t), .int .i64 i, .slice a1 k c1, .slice a2 k c2, .slice a3 k c3, .int .i64 (suR t), .int .i64 (suG t + 1), .slice a4 l c4]) := by
 unfold FoundA
 rw [mtN_ok h, mtN_ok h, mtN_ok h, mtN_ok h, mtN_ok h, mtI_ok h, mtL_ok h, mtL_ok h, mtL_ok h]
 refine ⟨a1, c1, a2, c2, a3, c3, a4, c4, ?_, h1, h2, h3, h4⟩
 rw [hl, pgL_length, ← hk]
theorem BoxL.cells11 {w : World} {h : Nat} {v0 v1 v2 v3 v4 v5 v6 v7 v8 v9 v10 : Value} (b : BoxL w h [v0, v1, v2, v3, v4, v5, v6, v7, v8, v9, v10]) :
  (w.cell? ⟨h, 0, none⟩ = some v0 ∧ w.cell? ⟨h, 1, none⟩ = some v1 ∧ w.cell? ⟨h, 2, none⟩ = some v2 ∧ w.cell? ⟨h, 3, none⟩ = some v3 ∧ w.cell? ⟨h, 4, none⟩ = some v4 ∧ w.cell? ⟨h, 5, none⟩ = some v5 ∧ w.cell? ⟨h, 6, none⟩ = some v6 ∧ w.cell? ⟨h, 7, none⟩ = some v7 ∧ w.cell? ⟨h, 8, none⟩ = some v8 ∧ w.cell? ⟨h, 9, none⟩ = some v9 ∧ w.cell? ⟨h, 10, none⟩ = some v10) ∧ w.frozen? ⟨h, 0, none⟩ = false ∧ w.frozen? ⟨h, 1, none⟩ = false ∧ w.frozen? ⟨h, 2, none⟩ = false ∧ w.frozen? ⟨h, 3, none⟩ = false ∧ w.frozen? ⟨h, 4, none⟩ = false ∧ w.frozen? ⟨h, 5, none⟩ = false ∧ w.frozen? ⟨h, 6, none⟩ = false ∧ w.frozen? ⟨h, 7, none⟩ = false ∧ w.frozen? ⟨h, 8, none⟩ = false ∧ w.frozen? ⟨h, 9, none⟩ = false ∧ w.frozen? ⟨h, 10, none⟩ = false :=
 ⟨⟨b.1 0 _ rfl, b.1 1 _ rfl, b.1 2 _ rfl, b.1 3 _ rfl, b.1 4 _ rfl, b.1 5 _ rfl, b.1 6 _ rfl, b.1 7 _ rfl, b.1 8 _ rfl, b.1 9 _ rfl, b.1 10 _ rfl⟩, b.2 0 (by simp), b.2 1 (by simp), b.2 2 (by simp), b.2 3 (by simp), b.2 4 (by simp), b.2 5 (by simp), b.2 6 (by simp), b.2 7 (by simp), b.2 8 (by simp), b.2 9 (by simp), b.2 10 (by simp)⟩
theorem isS_pair (W : World) (x y : ByteArray) (hx : x.size ≤ maxLen) (hy : y.size ≤ maxLen) : IsS (W.alloc (.cells #[.string x, .string y] 9)) (some ⟨W.heap.size, 0, none⟩) 2 [x, y] := by
 refine ⟨Nat.le_refl _, by unfold maxLen; omega, fun j d hd => ?_⟩
 match j, hd with
 | 0, hd =>
  simp at hd
  subst hd
  exact ⟨W.heap.size, 0, rfl, by simp, World.cell?_alloc_at _ _ _ _ rfl, hx⟩
 | 1, hd =>
  simp at hd
  subst hd
  exact ⟨W.heap.size, 0, rfl, by simp, World.cell?_alloc_at _ _ _ _ rfl, hy⟩
theorem isS_cut {w : World} {a : Option Addr} {b o c : Nat} {bs : List ByteArray} (h : IsS w (some ⟨b, o, none⟩) c bs) (h10 : 10 ≤ bs.length) : IsS w (some ⟨b, o + 2, none⟩) (c - 2) ((bs.take 10).drop 2) := by
 refine ⟨by have := h.1; simp; omega, Nat.le_trans (Nat.sub_le _ _) h.2.1, fun j x hx => ?_⟩
 rw [List.getElem?_drop, List.getElem?_take] at hx
 split at hx
 ·
  obtain ⟨b', o', e, h1, h2, h3⟩ := h.2.2 _ x hx
  cases e
  exact ⟨b, o + 2, rfl, h1, by rw [Nat.add_assoc]; exact h2, h3⟩
 ·
  cases hx
theorem setL_size (h : Nat) : ∀ (vs : List Value) (i : Nat) (w : World), (setL w h i vs).heap.size = w.heap.size
 | [], _, _ => rfl
 | v :: vs, i, w => (setL_size h vs (i + 1) _).trans (by simp)
theorem setL_cell {h : Nat} {p : Addr} : ∀ (vs : List Value) (i : Nat) (w : World), (∀ j, i ≤ j → j < i + vs.length → p ≠ ⟨h, j, none⟩) → (setL w h i vs).cell? p = w.cell? p
 | [], _, _, _ => rfl
 | v :: vs, i, w, hp => by
  refine (setL_cell vs (i + 1) _ (fun j h1 h2 => hp j (by omega) (by simp; omega))).trans ?_
  exact World.cell?_setCell_other _ _ _ _ (fun hh => hp i (Nat.le_refl _) (by simp) hh.symm)
theorem IsB.offBox {w : World} {a : Option Addr} {c h : Nat} {l : List Bool} {us : List Value} (hI : IsB w a c l) (b : BoxL w h us) (hu : ∀ (i : Nat) (u : Value), us[i]? = Option.some u → ∀ x, u ≠ Value.bool x) (vs : List Value) (hl : vs.length = us.length) : IsB (setL w h 0 vs) a c l := by
 refine ⟨hI.1, hI.2.1, fun j x hx => ?_⟩
 obtain ⟨k, o, ha, hlt, hc⟩ := hI.2.2 j x hx
 refine ⟨k, o, ha, by rw [setL_size]; exact hlt, ?_⟩
 rw [setL_cell]
 ·
  exact hc
 ·
  intro i _ hi he
  rw [he] at hc
  have hi' : i < us.length := by omega
  have := b.1 i _ (List.getElem?_eq_getElem hi')
  rw [hc] at this
  exact hu i _ (List.getElem?_eq_getElem hi') x (Option.some.inj this).symm
theorem IsS.offBox {w : World} {a : Option Addr} {c h : Nat} {l : List ByteArray} {us : List Value} (hI : IsS w a c l) (b : BoxL w h us) (hu : ∀ (i : Nat) (u : Value), us[i]? = Option.some u → ∀ x, u ≠ Value.string x) (vs : List Value) (hl : vs.length = us.length) : IsS (setL w h 0 vs) a c l := by
 refine ⟨hI.1, hI.2.1, fun j x hx => ?_⟩
 obtain ⟨k, o, ha, hlt, hc, hs⟩ := hI.2.2 j x hx
 refine ⟨k, o, ha, by rw [setL_size]; exact hlt, ?_, hs⟩
 rw [setL_cell]
 ·
  exact hc
 ·
  intro i _ hi he
  rw [he] at hc
  have hi' : i < us.length := by omega
  have := b.1 i _ (List.getElem?_eq_getElem hi')
  rw [hc] at this
  exact hu i _ (List.getElem?_eq_getElem hi') x (Option.some.inj this).symm
theorem zeros11 : ∀ (i : Nat) (u : Value), ([Value.int .i64 0, .int .i64 0, .int .i64 0, .int .i64 0, .int .i64 0, .slice none 0 0, .slice none 0 0, .slice none 0 0, .int .i64 0, .int .i64 0, .slice none 0 0] : List Value)[i]? = some u → (∀ x, u ≠ Value.bool x) ∧ ∀ x, u ≠ Value.string x := by
 intro i u hu
 have := List.mem_of_getElem? hu
 simp at this
 rcases this with rfl | rfl | rfl | rfl <;> exact ⟨fun x h => (by cases h), fun x h => (by cases h)⟩
set_option maxRecDepth 20000 in
set_option maxHeartbeats 8000000 in
theorem mount_any (a a' : Option Addr) (n n' c c' : Nat) (bs : List ByteArray) (ps : List (Int × ByteArray)) (t : ByteArray) (i : Nat) (w : World) (hn : n = bs.length) (hn' : n' = ps.length) (hS : IsS w a c bs) (hP : IsP w a' c' ps) (hbest : Best [readS bs ps 0, readS bs ps 1] t i) :
  Calls Tryz.prog 12 #[.agg #[.slice a n c, .slice a' n' c']] w fun e w' => ∃ v, e = .returned (.tuple #[v, .int .i64 (mtE bs ps t)]) ∧ FoundA (mtE bs ps t) bs t i w' v ∧ Below w.heap.size w w' := by
 obtain ⟨W0, hW0⟩ : ∃ W0, W0 = (w.alloc (.cells #[.slice a n c, .slice a' n' c'] 25)).alloc (.cells #[.int .i64 0, .int .i64 0, .int .i64 0, .int .i64 0, .int .i64 0, .slice none 0 0, .slice none 0 0, .slice none 0 0, .int .i64 0, .int .i64 0, .slice none 0 0] 42) := ⟨_, rfl⟩
 have HB : Below w.heap.size w W0 := by rw [hW0]; exact ((Below.refl _ _).alloc (Nat.le_refl _) _).alloc (by simp) _
 have bD : BoxL W0 w.heap.size [.slice a n c, .slice a' n' c'] := by rw [hW0]; exact (boxL_new w _ _ rfl).alloc _
 have bF : BoxL W0 (w.heap.size + 1) [.int .i64 0, .int .i64 0, .int .i64 0, .int .i64 0, .int .i64 0, .slice none 0 0, .slice none 0 0, .slice none 0 0, .int .i64 0, .int .i64 0, .slice none 0 0] := by rw [hW0]; exact boxL_new _ _ _ (by simp)
 have hWs : W0.heap.size = w.heap.size + 2 := by rw [hW0]; simp
 have cR : Calls Tryz.prog 31 #[.agg #[.slice a n c, .slice a' n' c']] W0 fun e w' => e = .returned (.bool (rightD bs ps)) ∧ Below W0.heap.size W0 w' := by
  have := right_any a a' c c' bs ps W0 (hS.below HB) (hP.below HB)
  rw [← hn, ← hn'] at this
  exact this
 have d0 := bD.1 0 _ rfl
 have d1 := bD.1 1 _ rfl
 cases hr : rightD bs ps with
 | false =>
  have HE : Hid (mtE bs ps t = 1) := mt_arg (fun h => by rw [hr] at h; cases h.1)
  rw [hr] at cR
  clear hS hP hbest hn hn' hr
  go_enter Tryz.func12, Tryz.ntmps12
  go_wp2_with (first
   | (go_at_call 31; rw [← hW0]; refine cR.mono ?_; rintro e w1 ⟨rfl, hb⟩; replace HB := Below.tr HB hb; replace bD := bD.below hb; replace bF := bF.below hb; clear hb d0 d1; have d0 := bD.1 0 _ rfl; have d1 := bD.1 1 _ rfl; obtain ⟨⟨q0, q1, q2, q3, q4, q5, q6, q7, q8, q9, q10⟩, f0, f1, f2, f3, f4, f5, f6, f7, f8, f9, f10⟩ := bF.cells11))
  refine bodyPost_ret (v := .tuple #[noFound, .int .i64 1]) (by simp [results, Tryz.results12, go_sem, noFound, q0, q1, q2, q3, q4, q5, q6, q7, q8, q9, q10]) rfl ?_
  rw [HE.out]
  exact ⟨_, rfl, foundA_no (by decide) _ _ _ _, Below.setL (Nat.le_succ _) [.int .i64 0, .int .i64 0, .int .i64 0, .int .i64 0, .int .i64 0, .slice none 0 0, .slice none 0 0, .slice none 0 0, .int .i64 0, .int .i64 0, .slice none 0 0] 0 _ HB⟩
 | true =>
 rw [hr] at cR
 by_cases h0 : ps.length = 0
 case neg =>
  have HE : Hid (mtE bs ps t = 1) := mt_arg (fun h => h0 h.2)
  have hn0 : (0 : Int) < n' := by omega
  clear hS hP hbest hn hn' hr
  go_enter Tryz.func12, Tryz.ntmps12
  go_wp2_with (first
   | (go_at_call 31; rw [← hW0]; refine cR.mono ?_; rintro e w1 ⟨rfl, hb⟩; replace HB := Below.tr HB hb; replace bD := bD.below hb; replace bF := bF.below hb; clear hb d0 d1; have d0 := bD.1 0 _ rfl; have d1 := bD.1 1 _ rfl; obtain ⟨⟨q0, q1, q2, q3, q4, q5, q6, q7, q8, q9, q10⟩, f0, f1, f2, f3, f4, f5, f6, f7, f8, f9, f10⟩ := bF.cells11))
  refine bodyPost_ret (v := .tuple #[noFound, .int .i64 1]) (by simp [results, Tryz.results12, go_sem, noFound, q0, q1, q2, q3, q4, q5, q6, q7, q8, q9, q10]) rfl ?_
  rw [HE.out]
  exact ⟨_, rfl, foundA_no (by decide) _ _ _ _, Below.setL (Nat.le_succ _) [.int .i64 0, .int .i64 0, .int .i64 0, .int .i64 0, .int .i64 0, .slice none 0 0, .slice none 0 0, .slice none 0 0, .int .i64 0, .int .i64 0, .slice none 0 0] 0 _ HB⟩
 case pos =>
 obtain rfl := List.length_eq_zero_iff.1 h0
 obtain rfl : n' = 0 := hn'
 clear h0
 have hRt : Hid (rightD bs [] = true ∧ ([] : List (Int × ByteArray)).length = 0) := ⟨hr, rfl⟩
 obtain ⟨⟨l1, l2, _⟩, _, _⟩ := (rightD_iff _ _).1 hr
 obtain ⟨b, o, rfl⟩ := hS.some (by omega)
 have HS : Hid (IsS w (some ⟨b, o, none⟩) c bs) := hS
 have HN : Hid (n = bs.length) := hn
 have cT : ∀ (k : Int) (V : World) (h : Nat), BoxL V h [.slice (some ⟨b, o, none⟩) n c, .slice a' 0 c'] → Below w.heap.size w V → Calls Tryz.prog 33 #[.pointer (some ⟨h, 0, none⟩), .int .i64 k] V fun e w' => e = .returned (.string (readS bs [] k)) ∧ Below V.heap.size V w' :=
  fun k V h hb hB => tells_any h _ a' n 0 c c' bs [] k V hn rfl hb (hS.below hB) (hP.below hB)
 have cC : ∀ W : World, Calls Tryz.prog 32 #[.slice (some ⟨W.heap.size, 0, none⟩) 2 2] (W.alloc (.cells #[.string (readS bs [] 0), .string (readS bs [] 1)] 9)) fun e w' => e = .returned (.tuple #[.agg #[.int .i64 (suG t), .int .i64 (suR t), .int .i64 (suM t), .int .i64 (suZ t)], .int .i64 i, .int .i64 (chE t)]) ∧ Below W.heap.size W w' :=
  fun W => (choose_any _ 2 [readS bs [] 0, readS bs [] 1] 2 t i _ rfl (isS_pair W _ _ (Nat.le_trans (readS_small _ _ _) (by decide)) (Nat.le_trans (readS_small _ _ _) (by decide))) hbest).mono fun e w' ⟨he, hb⟩ => ⟨he, below_box hb⟩
 have cU : ∀ (V : World) (h : Nat), BoxL V h [.slice (some ⟨b, o, none⟩) n c, .slice a' 0 c'] → Below w.heap.size w V → Calls Tryz.prog 34 #[.pointer (some ⟨h, 0, none⟩), .agg #[.int .i64 (suG t), .int .i64 (suR t), .int .i64 (suM t), .int .i64 (suZ t)]] V fun e w' => ∃ ua uc, e = .returned (.tuple #[.slice ua (usL (readS bs [] (suM t)) (suG t) (suZ t)).length uc, .int .i64 (usE (readS bs [] (suM t)) (suG t) (suZ t))]) ∧ IsB w' ua uc (usL (readS bs [] (suM t)) (suG t) (suZ t)) ∧ Below V.heap.size V w' :=
  fun V h hb hB => used_any h (suG t) (suR t) (suM t) (suZ t) (readS bs [] (suM t)) V (Nat.le_trans (readS_small _ _ _) (by decide)) (fun W hW => cT (suM t) W h (hb.below hW) (Below.tr hB hW))
 have mW : Hid (chE t = 0 → suZ t = n → wdU bs t = usL (readS bs [] (suM t)) (suG t) (suZ t) ∧ wdE bs t = (if usE (readS bs [] (suM t)) (suG t) (suZ t) = 0 then paE (wdU bs t) (wdU bs t) (pgL bs (wdU bs t)) (suR t) (suG t + 1) (suM t) else 120)) := by
  intro hc hz
  obtain ⟨_, _, _, ⟨m1, m2⟩, _⟩ := ch_right hc
  have e : readS bs [] (suM t) = blk bs (suM t).toNat := by
   have := readS_ok (k := (suM t).toNat) hr (by omega)
   rw [show (((suM t).toNat : Nat) : Int) = suM t by omega] at this
   exact this
  rw [e]
  exact ⟨rfl, rfl⟩
 have mR : Hid (chE t = 0 → (1 ≤ suG t ∧ suG t ≤ 1099511627776) ∧ (24 ≤ suZ t ∧ suZ t ≤ 2048)) := fun hc => ⟨(ch_right hc).1, (ch_right hc).2.1⟩
 have mA : Hid (¬ (chE t = 0 ∧ suZ t = n ∧ ¬ suG t = 1099511627776) → mtE bs [] t = 120) := fun h => mt_su hRt.out (by rw [← HN.out]; exact h)
 have mB : Hid (¬ wdE bs t = 0 → mtE bs [] t = 120) := fun h => mt_wd hRt.out h
 have mC : Hid (chE t = 0 → suZ t = n → ¬ suG t = 1099511627776 → wdE bs t = 0 → mtE bs [] t = 0) := fun h1 h2 h3 h4 => mt_ok hRt.out ⟨h1, by rw [← HN.out]; exact h2, h3⟩ h4
 have fO := @foundA_ok (mtE bs [] t)
 have mL : Hid (usE (readS bs [] (suM t)) (suG t) n = 0 → (usL (readS bs [] (suM t)) (suG t) n).length = n) := us_length
 obtain ⟨x0, hx0⟩ : ∃ x, x = readS bs [] 0 := ⟨_, rfl⟩
 obtain ⟨x1, hx1⟩ : ∃ x, x = readS bs [] 1 := ⟨_, rfl⟩
 have cT0 := cT 0
 have cT1 := cT 1
 rw [← hx0] at cT0 cC
 rw [← hx1] at cT1 cC
 obtain ⟨X, hX⟩ : ∃ x, x = readS bs [] (suM t) := ⟨_, rfl⟩
 rw [← hX] at cU mW mL
 clear cT hx0 hx1 hX hbest hP hS hn
 have fZ : Hid (∀ E w', ¬ E = 0 → FoundA E bs t i w' noFound) := fun E w' h => foundA_no h bs t i w'
 have hF : Hid (∀ (w' : World) (a1 a2 a3 a4 : Option Addr) (c1 c2 c3 c4 k l : Nat), mtE bs [] t = 0 → k = (wdU bs t).length → l = (scanR (suG t) 0 ((bs.take 10).drop 2)).length → IsB w' a1 c1 (wdU bs t) → IsB w' a2 c2 (wdU bs t) → IsS w' a3 c3 (pgL bs (wdU bs t)) → IsS w' a4 c4 (scanR (suG t) 0 ((bs.take 10).drop 2)) → FoundA (mtE bs [] t) bs t i w' (.agg #[.int .i64 (suG t), .int .i64 (suR t), .int .i64 (suM t), .int .i64 (suZ t), .int .i64 i, .slice a1 k c1, .slice a2 k c2, .slice a3 k c3, .int .i64 (suR t), .int .i64 (suG t + 1), .slice a4 l c4])) :=
  fun w' a1 a2 a3 a4 c1 c2 c3 c4 k l h hk hl h1 h2 h3 h4 => foundA_ok h hk hl h1 h2 h3 h4
 have cS : ∀ V, Below w.heap.size w V → 10 ≤ n → Calls Tryz.prog 37 #[.int .i64 (suG t), .slice (some ⟨b, o + 2, none⟩) 8 (c - 2)] V fun e w' => ∃ a4 c4, e = .returned (.slice a4 (scanR (suG t) 0 ((bs.take 10).drop 2)).length c4) ∧ IsS w' a4 c4 (scanR (suG t) 0 ((bs.take 10).drop 2)) ∧ Below V.heap.size V w' :=
  fun V hV h10 => ringScan_any (suG t) _ (c - 2) 8 ((bs.take 10).drop 2) V (by have := HN.out; simp; omega) (isS_cut (a := none) (HS.out.below hV) (by have := HN.out; omega)) (by omega)
 have cWd : ∀ (V : World) (h : Nat) (g r m z : Int) (ua : Option Addr) (k uc : Nat) (us : List Bool), k = us.length → k ≤ n → k ≤ 2048 → 0 ≤ g → g ≤ 1099511627776 → BoxL V h [.slice (some ⟨b, o, none⟩) n c, .slice a' 0 c'] → Below w.heap.size w V → IsB V ua uc us → Calls Tryz.prog 35 #[.pointer (some ⟨h, 0, none⟩), .agg #[.int .i64 g, .int .i64 r, .int .i64 m, .int .i64 z], .slice ua k uc] V fun e w' => ∃ a1 c1 a3 c3, e = .returned (.agg #[.slice a1 k c1, .slice ua k uc, .slice a3 k c3, .int .i64 r, .int .i64 (g + 1)]) ∧ IsB w' a1 c1 us ∧ IsS w' a3 c3 (pgL bs us) ∧ Below V.heap.size V w' :=
  fun V h g r m z ua k uc us h1 h2 h3 h4 h5 h6 h7 h8 => wood_any h _ a' n 0 c c' bs g r m z ua k uc us V h1 HN.out h2 h3 h4 h5 h6 (HS.out.below h7) h8
 clear fO
 obtain ⟨G, hG⟩ : ∃ G, G = suG t := ⟨_, rfl⟩
 obtain ⟨R, hR⟩ : ∃ R, R = suR t := ⟨_, rfl⟩
 obtain ⟨M, hM⟩ : ∃ M, M = suM t := ⟨_, rfl⟩
 obtain ⟨Z, hZ⟩ : ∃ Z, Z = suZ t := ⟨_, rfl⟩
 obtain ⟨CE, hCE⟩ : ∃ CE, CE = chE t := ⟨_, rfl⟩
 rw [← hG, ← hR, ← hM, ← hZ] at cU cC
 rw [← hCE] at cC mW mR mA mC
 rw [← hG, ← hR, ← hM, ← hZ] at mW hF
 rw [← hG, ← hZ] at mR mA mC
 rw [← hG] at cS mL
 clear hG hR hM hZ hCE
 obtain ⟨SR, hSR⟩ : ∃ S, S = scanR G 0 ((bs.take 10).drop 2) := ⟨_, rfl⟩
 rw [← hSR] at cS hF
 clear hSR
 obtain ⟨l, hl⟩ : ∃ l, l = SR.length := ⟨_, rfl⟩
 rw [← hl] at cS hF
 clear hl
 obtain ⟨D, hD⟩ : ∃ D, D = wdE bs t := ⟨_, rfl⟩
 rw [← hD] at mW mB mC
 clear hD
 obtain ⟨E, hE⟩ : ∃ E, E = mtE bs [] t := ⟨_, rfl⟩
 rw [← hE] at mA mB mC hF ⊢
 clear hE
 obtain ⟨U, hU⟩ : ∃ U, U = wdU bs t := ⟨_, rfl⟩
 rw [← hU] at mW hF
 clear hU
 have cnc : n ≤ c := by rw [HN.out]; exact HS.out.1
 have tok0 : True := trivial
 by_cases e1 : CE = 0
 case neg =>
  have HE : Hid (E = 120) := mA.out (fun h => e1 h.1)
  clear mA mB mC mW mR mL hF
  go_enter Tryz.func12, Tryz.ntmps12
  go_wp2_with (first
   | (go_at_call 31; rw [← hW0]; refine cR.mono ?_; rintro e w1 ⟨rfl, hb⟩; replace HB := Below.tr HB hb; replace bD := bD.below hb; replace bF := bF.below hb; clear hb d0 d1; have d0 := bD.1 0 _ rfl; have d1 := bD.1 1 _ rfl; obtain ⟨⟨q0, q1, q2, q3, q4, q5, q6, q7, q8, q9, q10⟩, f0, f1, f2, f3, f4, f5, f6, f7, f8, f9, f10⟩ := bF.cells11)
   | (go_at_call 33; have _t := tok0; clear _t tok0; have tok1 : True := trivial; have bK := boxL_new w1 [.slice (some ⟨b, o, none⟩) n c, .slice a' 0 c'] 68 rfl; have hC := (Below.refl w1.heap.size w1).alloc (Nat.le_refl _) (.cells #[.slice (some ⟨b, o, none⟩) n c, .slice a' 0 c'] 68); replace HB := Below.tr HB hC; replace bF := bF.below hC; refine (cT0 _ _ bK HB).mono ?_; rintro e w2 ⟨rfl, hb⟩; replace HB := Below.tr HB hb; replace bF := bF.below hb; replace bK := bK.below hb; clear hb hC)
   | (go_at_call 33; have _t := tok1; clear _t tok1; refine (cT1 _ _ bK HB).mono ?_; rintro e w3 ⟨rfl, hb⟩; replace HB := Below.tr HB hb; replace bF := bF.below hb; replace bK := bK.below hb; clear hb)
   | (go_at_call 32; refine (cC _).mono ?_; rintro e w4 ⟨rfl, hb⟩; have hC := (Below.refl w4.heap.size w4).alloc (Nat.le_refl _) (.cells #[.int .i64 G, .int .i64 R, .int .i64 M, .int .i64 Z] 35); replace HB := Below.tr (Below.tr HB hb) hC; replace bF := (bF.below hb).below hC; replace bK := (bK.below hb).below hC; have bS := boxL_new w4 [.int .i64 G, .int .i64 R, .int .i64 M, .int .i64 Z] 35 rfl; clear hb hC; clear q0 q1 q2 q3 q4 q5 q6 q7 q8 q9 q10 f0 f1 f2 f3 f4 f5 f6 f7 f8 f9 f10; obtain ⟨⟨q0, q1, q2, q3, q4, q5, q6, q7, q8, q9, q10⟩, f0, f1, f2, f3, f4, f5, f6, f7, f8, f9, f10⟩ := bF.cells11; have s0 := bS.1 0 _ rfl; have s1 := bS.1 1 _ rfl; have s2 := bS.1 2 _ rfl; have s3 := bS.1 3 _ rfl; have k0 := bK.1 0 _ rfl; have k1 := bK.1 1 _ rfl)
   | (go_at_call 34; refine (cU _ _ bK HB).mono ?_; rintro e w5 ⟨ua, uc, rfl, hI, hb⟩; replace HB := Below.tr HB hb; replace bF := bF.below hb; replace bK := bK.below hb; replace bS := bS.below hb; have HI : Hid (IsB w5 ua uc _) := hI; clear hb hI s0 s1 s2 s3 k0 k1; clear q0 q1 q2 q3 q4 q5 q6 q7 q8 q9 q10 f0 f1 f2 f3 f4 f5 f6 f7 f8 f9 f10; obtain ⟨⟨q0, q1, q2, q3, q4, q5, q6, q7, q8, q9, q10⟩, f0, f1, f2, f3, f4, f5, f6, f7, f8, f9, f10⟩ := bF.cells11; have s0 := bS.1 0 _ rfl; have s1 := bS.1 1 _ rfl; have s2 := bS.1 2 _ rfl; have s3 := bS.1 3 _ rfl; have k0 := bK.1 0 _ rfl; have k1 := bK.1 1 _ rfl))
  refine bodyPost_ret (v := .tuple #[noFound, .int .i64 120]) (by simp [results, Tryz.results12, go_sem, noFound, q0, q1, q2, q3, q4, q5, q6, q7, q8, q9, q10]) rfl ?_
  rw [HE.out]
  exact ⟨_, rfl, fZ.out _ _ (by decide), Below.setL (Nat.le_succ _) [.int .i64 0, .int .i64 0, .int .i64 0, .int .i64 0, .int .i64 0, .slice none 0 0, .slice none 0 0, .slice none 0 0, .int .i64 0, .int .i64 0, .slice none 0 0] 0 _ HB⟩
 case pos =>
 subst e1
 by_cases e2 : Z = n
 case neg =>
  have HE : Hid (E = 120) := mA.out (fun h => e2 h.2.1)
  clear mA mB mC mW mR mL hF
  go_enter Tryz.func12, Tryz.ntmps12
  go_wp2_with (first
   | (go_at_call 31; rw [← hW0]; refine cR.mono ?_; rintro e w1 ⟨rfl, hb⟩; replace HB := Below.tr HB hb; replace bD := bD.below hb; replace bF := bF.below hb; clear hb d0 d1; have d0 := bD.1 0 _ rfl; have d1 := bD.1 1 _ rfl; obtain ⟨⟨q0, q1, q2, q3, q4, q5, q6, q7, q8, q9, q10⟩, f0, f1, f2, f3, f4, f5, f6, f7, f8, f9, f10⟩ := bF.cells11)
   | (go_at_call 33; have _t := tok0; clear _t tok0; have tok1 : True := trivial; have bK := boxL_new w1 [.slice (some ⟨b, o, none⟩) n c, .slice a' 0 c'] 68 rfl; have hC := (Below.refl w1.heap.size w1).alloc (Nat.le_refl _) (.cells #[.slice (some ⟨b, o, none⟩) n c, .slice a' 0 c'] 68); replace HB := Below.tr HB hC; replace bF := bF.below hC; refine (cT0 _ _ bK HB).mono ?_; rintro e w2 ⟨rfl, hb⟩; replace HB := Below.tr HB hb; replace bF := bF.below hb; replace bK := bK.below hb; clear hb hC)
   | (go_at_call 33; have _t := tok1; clear _t tok1; refine (cT1 _ _ bK HB).mono ?_; rintro e w3 ⟨rfl, hb⟩; replace HB := Below.tr HB hb; replace bF := bF.below hb; replace bK := bK.below hb; clear hb)
   | (go_at_call 32; refine (cC _).mono ?_; rintro e w4 ⟨rfl, hb⟩; have hC := (Below.refl w4.heap.size w4).alloc (Nat.le_refl _) (.cells #[.int .i64 G, .int .i64 R, .int .i64 M, .int .i64 Z] 35); replace HB := Below.tr (Below.tr HB hb) hC; replace bF := (bF.below hb).below hC; replace bK := (bK.below hb).below hC; have bS := boxL_new w4 [.int .i64 G, .int .i64 R, .int .i64 M, .int .i64 Z] 35 rfl; clear hb hC; clear q0 q1 q2 q3 q4 q5 q6 q7 q8 q9 q10 f0 f1 f2 f3 f4 f5 f6 f7 f8 f9 f10; obtain ⟨⟨q0, q1, q2, q3, q4, q5, q6, q7, q8, q9, q10⟩, f0, f1, f2, f3, f4, f5, f6, f7, f8, f9, f10⟩ := bF.cells11; have s0 := bS.1 0 _ rfl; have s1 := bS.1 1 _ rfl; have s2 := bS.1 2 _ rfl; have s3 := bS.1 3 _ rfl; have k0 := bK.1 0 _ rfl; have k1 := bK.1 1 _ rfl)
   | (go_at_call 34; refine (cU _ _ bK HB).mono ?_; rintro e w5 ⟨ua, uc, rfl, hI, hb⟩; replace HB := Below.tr HB hb; replace bF := bF.below hb; replace bK := bK.below hb; replace bS := bS.below hb; have HI : Hid (IsB w5 ua uc _) := hI; clear hb hI s0 s1 s2 s3 k0 k1; clear q0 q1 q2 q3 q4 q5 q6 q7 q8 q9 q10 f0 f1 f2 f3 f4 f5 f6 f7 f8 f9 f10; obtain ⟨⟨q0, q1, q2, q3, q4, q5, q6, q7, q8, q9, q10⟩, f0, f1, f2, f3, f4, f5, f6, f7, f8, f9, f10⟩ := bF.cells11; have s0 := bS.1 0 _ rfl; have s1 := bS.1 1 _ rfl; have s2 := bS.1 2 _ rfl; have s3 := bS.1 3 _ rfl; have k0 := bK.1 0 _ rfl; have k1 := bK.1 1 _ rfl))
  refine bodyPost_ret (v := .tuple #[noFound, .int .i64 120]) (by simp [results, Tryz.results12, go_sem, noFound, q0, q1, q2, q3, q4, q5, q6, q7, q8, q9, q10]) rfl ?_
  rw [HE.out]
  exact ⟨_, rfl, fZ.out _ _ (by decide), Below.setL (Nat.le_succ _) [.int .i64 0, .int .i64 0, .int .i64 0, .int .i64 0, .int .i64 0, .slice none 0 0, .slice none 0 0, .slice none 0 0, .int .i64 0, .int .i64 0, .slice none 0 0] 0 _ HB⟩
 case pos =>
 subst e2
 by_cases e3 : G = 1099511627776
 case pos =>
  have HE : Hid (E = 120) := mA.out (fun h => h.2.2 e3)
  subst e3
  clear mA mB mC mW mR mL hF
  go_enter Tryz.func12, Tryz.ntmps12
  go_wp2_with (first
   | (go_at_call 31; rw [← hW0]; refine cR.mono ?_; rintro e w1 ⟨rfl, hb⟩; replace HB := Below.tr HB hb; replace bD := bD.below hb; replace bF := bF.below hb; clear hb d0 d1; have d0 := bD.1 0 _ rfl; have d1 := bD.1 1 _ rfl; obtain ⟨⟨q0, q1, q2, q3, q4, q5, q6, q7, q8, q9, q10⟩, f0, f1, f2, f3, f4, f5, f6, f7, f8, f9, f10⟩ := bF.cells11)
   | (go_at_call 33; have _t := tok0; clear _t tok0; have tok1 : True := trivial; have bK := boxL_new w1 [.slice (some ⟨b, o, none⟩) n c, .slice a' 0 c'] 68 rfl; have hC := (Below.refl w1.heap.size w1).alloc (Nat.le_refl _) (.cells #[.slice (some ⟨b, o, none⟩) n c, .slice a' 0 c'] 68); replace HB := Below.tr HB hC; replace bF := bF.below hC; refine (cT0 _ _ bK HB).mono ?_; rintro e w2 ⟨rfl, hb⟩; replace HB := Below.tr HB hb; replace bF := bF.below hb; replace bK := bK.below hb; clear hb hC)
   | (go_at_call 33; have _t := tok1; clear _t tok1; refine (cT1 _ _ bK HB).mono ?_; rintro e w3 ⟨rfl, hb⟩; replace HB := Below.tr HB hb; replace bF := bF.below hb; replace bK := bK.below hb; clear hb)
   | (go_at_call 32; refine (cC _).mono ?_; rintro e w4 ⟨rfl, hb⟩; have hC := (Below.refl w4.heap.size w4).alloc (Nat.le_refl _) (.cells #[.int .i64 1099511627776, .int .i64 R, .int .i64 M, .int .i64 ↑n] 35); replace HB := Below.tr (Below.tr HB hb) hC; replace bF := (bF.below hb).below hC; replace bK := (bK.below hb).below hC; have bS := boxL_new w4 [.int .i64 1099511627776, .int .i64 R, .int .i64 M, .int .i64 ↑n] 35 rfl; clear hb hC; clear q0 q1 q2 q3 q4 q5 q6 q7 q8 q9 q10 f0 f1 f2 f3 f4 f5 f6 f7 f8 f9 f10; obtain ⟨⟨q0, q1, q2, q3, q4, q5, q6, q7, q8, q9, q10⟩, f0, f1, f2, f3, f4, f5, f6, f7, f8, f9, f10⟩ := bF.cells11; have s0 := bS.1 0 _ rfl; have s1 := bS.1 1 _ rfl; have s2 := bS.1 2 _ rfl; have s3 := bS.1 3 _ rfl; have k0 := bK.1 0 _ rfl; have k1 := bK.1 1 _ rfl)
   | (go_at_call 34; refine (cU _ _ bK HB).mono ?_; rintro e w5 ⟨ua, uc, rfl, hI, hb⟩; replace HB := Below.tr HB hb; replace bF := bF.below hb; replace bK := bK.below hb; replace bS := bS.below hb; have HI : Hid (IsB w5 ua uc _) := hI; clear hb hI s0 s1 s2 s3 k0 k1; clear q0 q1 q2 q3 q4 q5 q6 q7 q8 q9 q10 f0 f1 f2 f3 f4 f5 f6 f7 f8 f9 f10; obtain ⟨⟨q0, q1, q2, q3, q4, q5, q6, q7, q8, q9, q10⟩, f0, f1, f2, f3, f4, f5, f6, f7, f8, f9, f10⟩ := bF.cells11; have s0 := bS.1 0 _ rfl; have s1 := bS.1 1 _ rfl; have s2 := bS.1 2 _ rfl; have s3 := bS.1 3 _ rfl; have k0 := bK.1 0 _ rfl; have k1 := bK.1 1 _ rfl))
  refine bodyPost_ret (v := .tuple #[noFound, .int .i64 120]) (by simp [results, Tryz.results12, go_sem, noFound, q0, q1, q2, q3, q4, q5, q6, q7, q8, q9, q10]) rfl ?_
  rw [HE.out]
  exact ⟨_, rfl, fZ.out _ _ (by decide), Below.setL (Nat.le_succ _) [.int .i64 0, .int .i64 0, .int .i64 0, .int .i64 0, .int .i64 0, .slice none 0 0, .slice none 0 0, .slice none 0 0, .int .i64 0, .int .i64 0, .slice none 0 0] 0 _ HB⟩
 case neg =>
 obtain ⟨⟨g1, g2⟩, z1, z2⟩ := mR.out rfl
 obtain ⟨rfl, wD⟩ := mW.out rfl rfl
 have WD : Hid _ := wD
 clear mA mR mW wD
 obtain ⟨UE, hUE⟩ : ∃ u, u = usE X G n := ⟨_, rfl⟩
 obtain ⟨U, hU⟩ : ∃ u, u = usL X G n := ⟨_, rfl⟩
 rw [← hUE, ← hU] at cU WD mL
 rw [← hU] at hF
 clear hUE hU
 by_cases e4 : UE = 0
 case neg =>
  have HE : Hid (E = 120) := mB.out (by rw [WD.out, if_neg e4]; decide)
  clear mB mC mL hF WD
  go_enter Tryz.func12, Tryz.ntmps12
  go_wp2_with (first
   | (go_at_call 31; rw [← hW0]; refine cR.mono ?_; rintro e w1 ⟨rfl, hb⟩; replace HB := Below.tr HB hb; replace bD := bD.below hb; replace bF := bF.below hb; clear hb d0 d1; have d0 := bD.1 0 _ rfl; have d1 := bD.1 1 _ rfl; obtain ⟨⟨q0, q1, q2, q3, q4, q5, q6, q7, q8, q9, q10⟩, f0, f1, f2, f3, f4, f5, f6, f7, f8, f9, f10⟩ := bF.cells11)
   | (go_at_call 33; have _t := tok0; clear _t tok0; have tok1 : True := trivial; have bK := boxL_new w1 [.slice (some ⟨b, o, none⟩) n c, .slice a' 0 c'] 68 rfl; have hC := (Below.refl w1.heap.size w1).alloc (Nat.le_refl _) (.cells #[.slice (some ⟨b, o, none⟩) n c, .slice a' 0 c'] 68); replace HB := Below.tr HB hC; replace bF := bF.below hC; refine (cT0 _ _ bK HB).mono ?_; rintro e w2 ⟨rfl, hb⟩; replace HB := Below.tr HB hb; replace bF := bF.below hb; replace bK := bK.below hb; clear hb hC)
   | (go_at_call 33; have _t := tok1; clear _t tok1; refine (cT1 _ _ bK HB).mono ?_; rintro e w3 ⟨rfl, hb⟩; replace HB := Below.tr HB hb; replace bF := bF.below hb; replace bK := bK.below hb; clear hb)
   | (go_at_call 32; refine (cC _).mono ?_; rintro e w4 ⟨rfl, hb⟩; have hC := (Below.refl w4.heap.size w4).alloc (Nat.le_refl _) (.cells #[.int .i64 G, .int .i64 R, .int .i64 M, .int .i64 ↑n] 35); replace HB := Below.tr (Below.tr HB hb) hC; replace bF := (bF.below hb).below hC; replace bK := (bK.below hb).below hC; have bS := boxL_new w4 [.int .i64 G, .int .i64 R, .int .i64 M, .int .i64 ↑n] 35 rfl; clear hb hC; clear q0 q1 q2 q3 q4 q5 q6 q7 q8 q9 q10 f0 f1 f2 f3 f4 f5 f6 f7 f8 f9 f10; obtain ⟨⟨q0, q1, q2, q3, q4, q5, q6, q7, q8, q9, q10⟩, f0, f1, f2, f3, f4, f5, f6, f7, f8, f9, f10⟩ := bF.cells11; have s0 := bS.1 0 _ rfl; have s1 := bS.1 1 _ rfl; have s2 := bS.1 2 _ rfl; have s3 := bS.1 3 _ rfl; have k0 := bK.1 0 _ rfl; have k1 := bK.1 1 _ rfl)
   | (go_at_call 34; refine (cU _ _ bK HB).mono ?_; rintro e w5 ⟨ua, uc, rfl, hI, hb⟩; replace HB := Below.tr HB hb; replace bF := bF.below hb; replace bK := bK.below hb; replace bS := bS.below hb; have HI : Hid (IsB w5 ua uc _) := hI; clear hb hI s0 s1 s2 s3 k0 k1; clear q0 q1 q2 q3 q4 q5 q6 q7 q8 q9 q10 f0 f1 f2 f3 f4 f5 f6 f7 f8 f9 f10; obtain ⟨⟨q0, q1, q2, q3, q4, q5, q6, q7, q8, q9, q10⟩, f0, f1, f2, f3, f4, f5, f6, f7, f8, f9, f10⟩ := bF.cells11; have s0 := bS.1 0 _ rfl; have s1 := bS.1 1 _ rfl; have s2 := bS.1 2 _ rfl; have s3 := bS.1 3 _ rfl; have k0 := bK.1 0 _ rfl; have k1 := bK.1 1 _ rfl))
  refine bodyPost_ret (v := .tuple #[noFound, .int .i64 120]) (by simp [results, Tryz.results12, go_sem, noFound, q0, q1, q2, q3, q4, q5, q6, q7, q8, q9, q10]) rfl ?_
  rw [HE.out]
  exact ⟨_, rfl, fZ.out _ _ (by decide), Below.setL (Nat.le_succ _) [.int .i64 0, .int .i64 0, .int .i64 0, .int .i64 0, .int .i64 0, .slice none 0 0, .slice none 0 0, .slice none 0 0, .int .i64 0, .int .i64 0, .slice none 0 0] 0 _ HB⟩
 case pos =>
 subst e4
 replace WD : Hid (D = paE U U (pgL bs U) R (G + 1) M) := by have := WD.out; rw [if_pos rfl] at this; exact this
 have hUl : Hid (U.length = n) := mL.out rfl
 rw [show U.length = n from hUl.out] at cU
 have cP : ∀ (V : World) (a1 a2 a3 : Option Addr) (c1 c2 c3 : Nat), IsB V a1 c1 U → IsB V a2 c2 U → IsS V a3 c3 (pgL bs U) → Calls Tryz.prog 36 #[.agg #[.slice a1 n c1, .slice a2 n c2, .slice a3 n c3, .int .i64 R, .int .i64 (G + 1)], .int .i64 M] V fun e w' => e = .returned (.bool (decide (D = 0))) ∧ Below V.heap.size V w' := by
  intro V a1 a2 a3 c1 c2 c3 h1 h2 h3
  have := passes_any a1 a2 a3 n c1 n c2 n c3 U U (pgL bs U) R (G + 1) M V hUl.out.symm hUl.out.symm (by rw [pgL_length]; exact hUl.out.symm) h1 h2 h3
  rw [show paB U U (pgL bs U) R (G + 1) M = decide (D = 0) by unfold paB; rw [← WD.out]] at this
  exact this
 have cW : ∀ (V : World) (h : Nat) (ua : Option Addr) (uc : Nat), BoxL V h [.slice (some ⟨b, o, none⟩) n c, .slice a' 0 c'] → Below w.heap.size w V → IsB V ua uc U → Calls Tryz.prog 35 #[.pointer (some ⟨h, 0, none⟩), .agg #[.int .i64 G, .int .i64 R, .int .i64 M, .int .i64 n], .slice ua n uc] V fun e w' => ∃ a1 c1 a3 c3, e = .returned (.agg #[.slice a1 n c1, .slice ua n uc, .slice a3 n c3, .int .i64 R, .int .i64 (G + 1)]) ∧ IsB w' a1 c1 U ∧ IsS w' a3 c3 (pgL bs U) ∧ Below V.heap.size V w' :=
  fun V h ua uc h1 h2 h3 => cWd V h G R M n ua n uc U hUl.out.symm (Nat.le_refl _) (by omega) (by omega) (by omega) h1 h2 h3
 replace hF : Hid (∀ (w' : World) (a1 a2 a3 a4 : Option Addr) (c1 c2 c3 c4 : Nat), D = 0 → IsB w' a1 c1 U → IsB w' a2 c2 U → IsS w' a3 c3 (pgL bs U) → IsS w' a4 c4 SR → FoundA E bs t i w' (.agg #[.int .i64 G, .int .i64 R, .int .i64 M, .int .i64 n, .int .i64 i, .slice a1 n c1, .slice a2 n c2, .slice a3 n c3, .int .i64 R, .int .i64 (G + 1), .slice a4 l c4])) :=
  fun w' a1 a2 a3 a4 c1 c2 c3 c4 h h1 h2 h3 h4 => hF.out w' a1 a2 a3 a4 c1 c2 c3 c4 n l (mC.out rfl rfl e3 h) hUl.out.symm rfl h1 h2 h3 h4
 clear cWd mL
 obtain ⟨P, hPP⟩ : ∃ P, P = pgL bs U := ⟨_, rfl⟩
 rw [← hPP] at cP cW hF
 obtain ⟨G1, hG1⟩ : ∃ g, g = G + 1 := ⟨_, rfl⟩
 rw [← hG1] at cP cW hF
 have ten : 10 ≤ n := by omega
 replace cS := fun V hV => cS V hV ten
 have c10 : 10 ≤ c := by omega
 have c10i : (10 : Int) ≤ c := by omega
 have c2 : ¬ c = 2 := by omega
 clear WD hPP hG1 HS HN hUl
 by_cases e5 : D = 0
 case neg =>
  have HE : Hid (E = 120) := mB.out e5
  rw [show decide (D = 0) = false from decide_eq_false e5] at cP
  clear hF mB mC
  go_enter Tryz.func12, Tryz.ntmps12
  go_wp2_with (first
   | (go_at_call 31; rw [← hW0]; refine cR.mono ?_; rintro e w1 ⟨rfl, hb⟩; replace HB := Below.tr HB hb; replace bD := bD.below hb; replace bF := bF.below hb; clear hb d0 d1; have d0 := bD.1 0 _ rfl; have d1 := bD.1 1 _ rfl; obtain ⟨⟨q0, q1, q2, q3, q4, q5, q6, q7, q8, q9, q10⟩, f0, f1, f2, f3, f4, f5, f6, f7, f8, f9, f10⟩ := bF.cells11)
   | (go_at_call 33; have _t := tok0; clear _t tok0; have tok1 : True := trivial; have bK := boxL_new w1 [.slice (some ⟨b, o, none⟩) n c, .slice a' 0 c'] 68 rfl; have hC := (Below.refl w1.heap.size w1).alloc (Nat.le_refl _) (.cells #[.slice (some ⟨b, o, none⟩) n c, .slice a' 0 c'] 68); replace HB := Below.tr HB hC; replace bF := bF.below hC; refine (cT0 _ _ bK HB).mono ?_; rintro e w2 ⟨rfl, hb⟩; replace HB := Below.tr HB hb; replace bF := bF.below hb; replace bK := bK.below hb; clear hb hC)
   | (go_at_call 33; have _t := tok1; clear _t tok1; refine (cT1 _ _ bK HB).mono ?_; rintro e w3 ⟨rfl, hb⟩; replace HB := Below.tr HB hb; replace bF := bF.below hb; replace bK := bK.below hb; clear hb)
   | (go_at_call 32; refine (cC _).mono ?_; rintro e w4 ⟨rfl, hb⟩; have hC := (Below.refl w4.heap.size w4).alloc (Nat.le_refl _) (.cells #[.int .i64 G, .int .i64 R, .int .i64 M, .int .i64 ↑n] 35); replace HB := Below.tr (Below.tr HB hb) hC; replace bF := (bF.below hb).below hC; replace bK := (bK.below hb).below hC; have bS := boxL_new w4 [.int .i64 G, .int .i64 R, .int .i64 M, .int .i64 ↑n] 35 rfl; clear hb hC; clear q0 q1 q2 q3 q4 q5 q6 q7 q8 q9 q10 f0 f1 f2 f3 f4 f5 f6 f7 f8 f9 f10; obtain ⟨⟨q0, q1, q2, q3, q4, q5, q6, q7, q8, q9, q10⟩, f0, f1, f2, f3, f4, f5, f6, f7, f8, f9, f10⟩ := bF.cells11; have s0 := bS.1 0 _ rfl; have s1 := bS.1 1 _ rfl; have s2 := bS.1 2 _ rfl; have s3 := bS.1 3 _ rfl; have k0 := bK.1 0 _ rfl; have k1 := bK.1 1 _ rfl)
   | (go_at_call 34; refine (cU _ _ bK HB).mono ?_; rintro e w5 ⟨ua, uc, rfl, hI, hb⟩; replace HB := Below.tr HB hb; replace bF := bF.below hb; replace bK := bK.below hb; replace bS := bS.below hb; have HI : Hid (IsB w5 ua uc _) := hI; clear hb hI s0 s1 s2 s3 k0 k1; clear q0 q1 q2 q3 q4 q5 q6 q7 q8 q9 q10 f0 f1 f2 f3 f4 f5 f6 f7 f8 f9 f10; obtain ⟨⟨q0, q1, q2, q3, q4, q5, q6, q7, q8, q9, q10⟩, f0, f1, f2, f3, f4, f5, f6, f7, f8, f9, f10⟩ := bF.cells11; have s0 := bS.1 0 _ rfl; have s1 := bS.1 1 _ rfl; have s2 := bS.1 2 _ rfl; have s3 := bS.1 3 _ rfl; have k0 := bK.1 0 _ rfl; have k1 := bK.1 1 _ rfl)
   | (go_at_call 35; refine (cW _ _ ua uc bK HB HI.out).mono ?_; rintro e w6 ⟨a1, c1, a3, c3, rfl, i1, i3, hb⟩; have hC := (Below.refl w6.heap.size w6).alloc (Nat.le_refl _) (.cells #[.slice a1 n c1, .slice ua n uc, .slice a3 n c3, .int .i64 R, .int .i64 G1] 40); replace HB := Below.tr (Below.tr HB hb) hC; replace bF := (bF.below hb).below hC; replace bK := (bK.below hb).below hC; replace bS := (bS.below hb).below hC; have bW := boxL_new w6 [.slice a1 n c1, .slice ua n uc, .slice a3 n c3, .int .i64 R, .int .i64 G1] 40 rfl; have I1 : Hid (IsB _ a1 c1 U) := i1.below hC; have I2 : Hid (IsB _ ua uc U) := (HI.out.below hb).below hC; have I3 : Hid (IsS _ a3 c3 P) := i3.below hC; clear hb hC i1 i3 HI s0 s1 s2 s3 k0 k1; clear q0 q1 q2 q3 q4 q5 q6 q7 q8 q9 q10 f0 f1 f2 f3 f4 f5 f6 f7 f8 f9 f10; obtain ⟨⟨q0, q1, q2, q3, q4, q5, q6, q7, q8, q9, q10⟩, f0, f1, f2, f3, f4, f5, f6, f7, f8, f9, f10⟩ := bF.cells11; have s0 := bS.1 0 _ rfl; have s1 := bS.1 1 _ rfl; have s2 := bS.1 2 _ rfl; have s3 := bS.1 3 _ rfl; have k0 := bK.1 0 _ rfl; have k1 := bK.1 1 _ rfl; have v0 := bW.1 0 _ rfl; have v1 := bW.1 1 _ rfl; have v2 := bW.1 2 _ rfl; have v3 := bW.1 3 _ rfl; have v4 := bW.1 4 _ rfl)
   | (go_at_call 36; refine (cP _ a1 ua a3 c1 uc c3 I1.out I2.out I3.out).mono ?_; rintro e w7 ⟨rfl, hb⟩; replace HB := Below.tr HB hb; replace bF := bF.below hb; replace bK := bK.below hb; replace bS := bS.below hb; replace bW := bW.below hb; replace I1 : Hid (IsB _ a1 c1 U) := I1.out.below hb; replace I2 : Hid (IsB _ ua uc U) := I2.out.below hb; replace I3 : Hid (IsS _ a3 c3 P) := I3.out.below hb; clear hb s0 s1 s2 s3 k0 k1 v0 v1 v2 v3 v4; clear q0 q1 q2 q3 q4 q5 q6 q7 q8 q9 q10 f0 f1 f2 f3 f4 f5 f6 f7 f8 f9 f10; obtain ⟨⟨q0, q1, q2, q3, q4, q5, q6, q7, q8, q9, q10⟩, f0, f1, f2, f3, f4, f5, f6, f7, f8, f9, f10⟩ := bF.cells11; have s0 := bS.1 0 _ rfl; have s1 := bS.1 1 _ rfl; have s2 := bS.1 2 _ rfl; have s3 := bS.1 3 _ rfl; have k0 := bK.1 0 _ rfl; have k1 := bK.1 1 _ rfl; have v0 := bW.1 0 _ rfl; have v1 := bW.1 1 _ rfl; have v2 := bW.1 2 _ rfl; have v3 := bW.1 3 _ rfl; have v4 := bW.1 4 _ rfl))
  refine bodyPost_ret (v := .tuple #[noFound, .int .i64 120]) (by simp [results, Tryz.results12, go_sem, noFound, q0, q1, q2, q3, q4, q5, q6, q7, q8, q9, q10]) rfl ?_
  rw [HE.out]
  exact ⟨_, rfl, fZ.out _ _ (by decide), Below.setL (Nat.le_succ _) [.int .i64 0, .int .i64 0, .int .i64 0, .int .i64 0, .int .i64 0, .slice none 0 0, .slice none 0 0, .slice none 0 0, .int .i64 0, .int .i64 0, .slice none 0 0] 0 _ HB⟩
 case pos =>
  have HE : Hid (E = 0) := mC.out rfl rfl e3 e5
  rw [show decide (D = 0) = true from decide_eq_true e5] at cP
  clear mB mC
  go_enter Tryz.func12, Tryz.ntmps12
  go_wp2_with (first
   | (go_at_call 31; rw [← hW0]; refine cR.mono ?_; rintro e w1 ⟨rfl, hb⟩; replace HB := Below.tr HB hb; replace bD := bD.below hb; replace bF := bF.below hb; clear hb d0 d1; have d0 := bD.1 0 _ rfl; have d1 := bD.1 1 _ rfl; obtain ⟨⟨q0, q1, q2, q3, q4, q5, q6, q7, q8, q9, q10⟩, f0, f1, f2, f3, f4, f5, f6, f7, f8, f9, f10⟩ := bF.cells11)
   | (go_at_call 33; have _t := tok0; clear _t tok0; have tok1 : True := trivial; have bK := boxL_new w1 [.slice (some ⟨b, o, none⟩) n c, .slice a' 0 c'] 68 rfl; have hC := (Below.refl w1.heap.size w1).alloc (Nat.le_refl _) (.cells #[.slice (some ⟨b, o, none⟩) n c, .slice a' 0 c'] 68); replace HB := Below.tr HB hC; replace bF := bF.below hC; refine (cT0 _ _ bK HB).mono ?_; rintro e w2 ⟨rfl, hb⟩; replace HB := Below.tr HB hb; replace bF := bF.below hb; replace bK := bK.below hb; clear hb hC)
   | (go_at_call 33; have _t := tok1; clear _t tok1; refine (cT1 _ _ bK HB).mono ?_; rintro e w3 ⟨rfl, hb⟩; replace HB := Below.tr HB hb; replace bF := bF.below hb; replace bK := bK.below hb; clear hb)
   | (go_at_call 32; refine (cC _).mono ?_; rintro e w4 ⟨rfl, hb⟩; have hC := (Below.refl w4.heap.size w4).alloc (Nat.le_refl _) (.cells #[.int .i64 G, .int .i64 R, .int .i64 M, .int .i64 ↑n] 35); replace HB := Below.tr (Below.tr HB hb) hC; replace bF := (bF.below hb).below hC; replace bK := (bK.below hb).below hC; have bS := boxL_new w4 [.int .i64 G, .int .i64 R, .int .i64 M, .int .i64 ↑n] 35 rfl; clear hb hC; clear q0 q1 q2 q3 q4 q5 q6 q7 q8 q9 q10 f0 f1 f2 f3 f4 f5 f6 f7 f8 f9 f10; obtain ⟨⟨q0, q1, q2, q3, q4, q5, q6, q7, q8, q9, q10⟩, f0, f1, f2, f3, f4, f5, f6, f7, f8, f9, f10⟩ := bF.cells11; have s0 := bS.1 0 _ rfl; have s1 := bS.1 1 _ rfl; have s2 := bS.1 2 _ rfl; have s3 := bS.1 3 _ rfl; have k0 := bK.1 0 _ rfl; have k1 := bK.1 1 _ rfl)
   | (go_at_call 34; refine (cU _ _ bK HB).mono ?_; rintro e w5 ⟨ua, uc, rfl, hI, hb⟩; replace HB := Below.tr HB hb; replace bF := bF.below hb; replace bK := bK.below hb; replace bS := bS.below hb; have HI : Hid (IsB w5 ua uc _) := hI; clear hb hI s0 s1 s2 s3 k0 k1; clear q0 q1 q2 q3 q4 q5 q6 q7 q8 q9 q10 f0 f1 f2 f3 f4 f5 f6 f7 f8 f9 f10; obtain ⟨⟨q0, q1, q2, q3, q4, q5, q6, q7, q8, q9, q10⟩, f0, f1, f2, f3, f4, f5, f6, f7, f8, f9, f10⟩ := bF.cells11; have s0 := bS.1 0 _ rfl; have s1 := bS.1 1 _ rfl; have s2 := bS.1 2 _ rfl; have s3 := bS.1 3 _ rfl; have k0 := bK.1 0 _ rfl; have k1 := bK.1 1 _ rfl)
   | (go_at_call 35; refine (cW _ _ ua uc bK HB HI.out).mono ?_; rintro e w6 ⟨a1, c1, a3, c3, rfl, i1, i3, hb⟩; have hC := (Below.refl w6.heap.size w6).alloc (Nat.le_refl _) (.cells #[.slice a1 n c1, .slice ua n uc, .slice a3 n c3, .int .i64 R, .int .i64 G1] 40); replace HB := Below.tr (Below.tr HB hb) hC; replace bF := (bF.below hb).below hC; replace bK := (bK.below hb).below hC; replace bS := (bS.below hb).below hC; have bW := boxL_new w6 [.slice a1 n c1, .slice ua n uc, .slice a3 n c3, .int .i64 R, .int .i64 G1] 40 rfl; have I1 : Hid (IsB _ a1 c1 U) := i1.below hC; have I2 : Hid (IsB _ ua uc U) := (HI.out.below hb).below hC; have I3 : Hid (IsS _ a3 c3 P) := i3.below hC; clear hb hC i1 i3 HI s0 s1 s2 s3 k0 k1; clear q0 q1 q2 q3 q4 q5 q6 q7 q8 q9 q10 f0 f1 f2 f3 f4 f5 f6 f7 f8 f9 f10; obtain ⟨⟨q0, q1, q2, q3, q4, q5, q6, q7, q8, q9, q10⟩, f0, f1, f2, f3, f4, f5, f6, f7, f8, f9, f10⟩ := bF.cells11; have s0 := bS.1 0 _ rfl; have s1 := bS.1 1 _ rfl; have s2 := bS.1 2 _ rfl; have s3 := bS.1 3 _ rfl; have k0 := bK.1 0 _ rfl; have k1 := bK.1 1 _ rfl; have v0 := bW.1 0 _ rfl; have v1 := bW.1 1 _ rfl; have v2 := bW.1 2 _ rfl; have v3 := bW.1 3 _ rfl; have v4 := bW.1 4 _ rfl)
   | (go_at_call 36; refine (cP _ a1 ua a3 c1 uc c3 I1.out I2.out I3.out).mono ?_; rintro e w7 ⟨rfl, hb⟩; replace HB := Below.tr HB hb; replace bF := bF.below hb; replace bK := bK.below hb; replace bS := bS.below hb; replace bW := bW.below hb; replace I1 : Hid (IsB _ a1 c1 U) := I1.out.below hb; replace I2 : Hid (IsB _ ua uc U) := I2.out.below hb; replace I3 : Hid (IsS _ a3 c3 P) := I3.out.below hb; clear hb s0 s1 s2 s3 k0 k1 v0 v1 v2 v3 v4; clear q0 q1 q2 q3 q4 q5 q6 q7 q8 q9 q10 f0 f1 f2 f3 f4 f5 f6 f7 f8 f9 f10; obtain ⟨⟨q0, q1, q2, q3, q4, q5, q6, q7, q8, q9, q10⟩, f0, f1, f2, f3, f4, f5, f6, f7, f8, f9, f10⟩ := bF.cells11; have s0 := bS.1 0 _ rfl; have s1 := bS.1 1 _ rfl; have s2 := bS.1 2 _ rfl; have s3 := bS.1 3 _ rfl; have k0 := bK.1 0 _ rfl; have k1 := bK.1 1 _ rfl; have v0 := bW.1 0 _ rfl; have v1 := bW.1 1 _ rfl; have v2 := bW.1 2 _ rfl; have v3 := bW.1 3 _ rfl; have v4 := bW.1 4 _ rfl))
  have hD0 : Below w7.heap.size w7 w7.drew := (Below.refl _ _).drew
  replace HB := Below.tr HB hD0
  replace bF := bF.below hD0
  replace bK := bK.below hD0
  replace bS := bS.below hD0
  replace bW := bW.below hD0
  replace I1 : Hid (IsB _ a1 c1 U) := I1.out.below hD0
  replace I2 : Hid (IsB _ ua uc U) := I2.out.below hD0
  replace I3 : Hid (IsS _ a3 c3 P) := I3.out.below hD0
  clear hD0 s0 s1 s2 s3 k0 k1 v0 v1 v2 v3 v4
  go_region_held3 (fun V => V.cell? ⟨w4.heap.size, 0, none⟩ = some (.int .i64 G) ∧ V.cell? ⟨w1.heap.size, 0, none⟩ = some (.slice (some ⟨b, o, none⟩) n c)) (exact ⟨bS.1 0 _ rfl, bK.1 0 _ rfl⟩)
   (first
    | (go_at_call 37; refine (cS _ HB).mono ?_; rintro e w8 ⟨a4, c4, rfl, i4, hb⟩; replace HB := Below.tr HB hb; replace bF := bF.below hb; replace bK := bK.below hb; replace bS := bS.below hb; replace bW := bW.below hb; replace I1 : Hid (IsB _ a1 c1 U) := I1.out.below hb; replace I2 : Hid (IsB _ ua uc U) := I2.out.below hb; replace I3 : Hid (IsS _ a3 c3 P) := I3.out.below hb; have I4 : Hid (IsS _ a4 c4 SR) := i4; clear hb i4))
  have s0 := bS.1 0 _ rfl
  have s1 := bS.1 1 _ rfl
  have s2 := bS.1 2 _ rfl
  have s3 := bS.1 3 _ rfl
  have v0 := bW.1 0 _ rfl
  have v1 := bW.1 1 _ rfl
  have v2 := bW.1 2 _ rfl
  have v3 := bW.1 3 _ rfl
  have v4 := bW.1 4 _ rfl
  clear q0 q1 q2 q3 q4 q5 q6 q7 q8 q9 q10 f0 f1 f2 f3 f4 f5 f6 f7 f8 f9 f10; obtain ⟨⟨q0, q1, q2, q3, q4, q5, q6, q7, q8, q9, q10⟩, f0, f1, f2, f3, f4, f5, f6, f7, f8, f9, f10⟩ := bF.cells11
  go_wp2
  refine bodyPost_ret (v := .tuple #[.agg #[.int .i64 G, .int .i64 R, .int .i64 M, .int .i64 n, .int .i64 i, .slice a1 n c1, .slice ua n uc, .slice a3 n c3, .int .i64 R, .int .i64 G1, .slice a4 l c4], .int .i64 0]) (by simp [results, Tryz.results12, go_sem, q0, q1, q2, q3, q4, q5, q6, q7, q8, q9, q10]) rfl ?_
  rw [HE.out]
  rw [HE.out] at hF
  let VS : List Value := [.int .i64 G, .int .i64 R, .int .i64 M, .int .i64 n, .int .i64 i, .slice a1 n c1, .slice ua n uc, .slice a3 n c3, .int .i64 R, .int .i64 G1, .slice a4 l c4]
  exact ⟨_, rfl, hF.out (setL w8 (w.heap.size + 1) 0 VS) _ _ _ _ _ _ _ _ e5 (I1.out.offBox bF (fun i u h => (zeros11 i u h).1) VS rfl) (I2.out.offBox bF (fun i u h => (zeros11 i u h).1) VS rfl) (I3.out.offBox bF (fun i u h => (zeros11 i u h).2) VS rfl) (I4.out.offBox bF (fun i u h => (zeros11 i u h).2) VS rfl), Below.setL (Nat.le_succ _) VS 0 _ HB⟩
set_option maxRecDepth 20000 in
theorem superBytes_any (g r m z : Int) (w : World) :
  Calls Tryz.prog 27 #[.agg #[.int .i64 g, .int .i64 r, .int .i64 m, .int .i64 z]] w fun e w' => e = .returned (.string (suS g r m z)) ∧ Below w.heap.size w w' := by
 have cP := fun W => suPut_any g r m z W
 obtain ⟨s, hs⟩ : ∃ s, s = suS g r m z := ⟨_, rfl⟩
 obtain ⟨E, hE⟩ : ∃ E, E = suP g r m z := ⟨_, rfl⟩
 rw [← hs, ← hE] at cP
 rw [← hs]
 clear hs hE
 have bx := boxL_new w [.int .i64 g, .int .i64 r, .int .i64 m, .int .i64 z] 35 rfl
 have q0 := bx.1 0 _ rfl
 have q1 := bx.1 1 _ rfl
 have q2 := bx.1 2 _ rfl
 have q3 := bx.1 3 _ rfl
 go_enter Tryz.func27, Tryz.ntmps27
 go_wp2_with (go_at_call 65; refine (cP _).mono ?_; rintro e w1 ⟨rfl, hb⟩; replace hb := below_box hb)
 go_ret
 exact ⟨rfl, hb⟩
set_option maxRecDepth 20000 in
theorem mapBytes_any (g : Int) (a : Option Addr) (c n : Nat) (l : List Bool) (w : World) (hn : n = l.length) (hB : IsB w a c l) (hl : n ≤ 4096) :
  Calls Tryz.prog 28 #[.int .i64 g, .slice a n c] w fun e w' => e = .returned (.string (mapS g l)) ∧ Below w.heap.size w w' := by
 have cK := pack_any a c l w hB (by omega)
 rw [← hn] at cK
 have cP := fun W => pagePut_any 3 g (packS l) W (by rw [packS_size]; unfold sizeB maxLen; omega)
 rw [show pageS 3 g (packS l) = mapS g l from rfl] at cP
 obtain ⟨s, hs⟩ : ∃ s, s = mapS g l := ⟨_, rfl⟩
 obtain ⟨p, hp⟩ : ∃ p, p = packS l := ⟨_, rfl⟩
 obtain ⟨E, hE⟩ : ∃ E, E = pageE 3 g (packS l) := ⟨_, rfl⟩
 rw [← hs, ← hE, ← hp] at cP
 rw [← hp] at cK
 rw [← hs]
 clear hs hE hp hn hB
 go_enter Tryz.func28, Tryz.ntmps28
 go_wp2_with (first
  | (go_at_call 67; refine cK.mono ?_; rintro e w1 ⟨rfl, hB⟩)
  | (go_at_call 66; refine (cP _).mono ?_; rintro e w2 ⟨rfl, hb⟩; replace hB := Below.tr hB hb))
 go_ret
 exact ⟨rfl, hB⟩
set_option maxHeartbeats 400000 in
theorem devNew_row (k : Nat) (w : World) (h1 : 1 ≤ k) (h2 : k ≤ 2048) :
  Calls Tryz.prog 26 #[.int .i64 k] w fun e w' => ∃ g, e = .returned (.tuple #[.agg #[.slice (some ⟨g, 0, none⟩) k k, .slice none 0 0], .int .i64 0]) ∧ w.heap.size ≤ g ∧ RowS w' g k (List.replicate k ByteArray.empty) ∧ Below w.heap.size w w' := by
 obtain ⟨Z, hmk, hZ⟩ : ∃ Z : Array Value, (∀ W : World, (Instr.makeSlice 22 (.int .i64 k) (.int .i64 k)).run Tryz.prog W = .ok (.slice (some ⟨W.heap.size, 0, none⟩) k k) (W.alloc (.cells Z 9))) ∧ Hid (Z = (List.replicate k (Value.string ⟨#[]⟩)).toArray) :=
  ⟨madeCells #[.string ⟨#[]⟩] k, fun W => run_make_row' (P := Tryz.prog) 22 9 (.string ⟨#[]⟩) 16 Tryz.underlying22 Tryz.info9 rfl .i64 .i64 k (by omega) (by omega) W, made_one _ k⟩
 have h1' : (1 : Int) ≤ k := by omega
 have h2' : (k : Int) ≤ 2048 := by omega
 go_enter Tryz.func26, Tryz.ntmps26
 go_wp2
 refine bodyPost_ret (v := .tuple #[.agg #[.slice (some ⟨w.heap.size + 1, 0, none⟩) k k, .slice none 0 0], .int .i64 0]) (by simp [results, Tryz.results26, go_sem]) rfl ⟨_, rfl, Nat.le_succ _, ?_, ?_⟩
 ·
  exact RowS.new _ k hZ.out (by simp) (by unfold maxLen; omega)
 ·
  exact ((Below.refl _ _).alloc (Nat.le_refl _) _).alloc (by simp) _
end Go.Proofs.YtaobfgplheoefaaGreat
namespace Go.Proofs.YtaobfgplheoefaaGreat
namespace Plain
open Go.RowKit
def fmA (n : Int) : List ByteArray := if mayB n = true then fmtL n.toNat else []
def fmE (n : Int) : Int := if mayB n = true then 0 else 1
theorem fm_no {n : Int} (h : mayB n = false) : fmA n = [] ∧ fmE n = 1 := by unfold fmA fmE; rw [h]; exact ⟨rfl, rfl⟩
theorem fm_yes {k : Nat} (h : mayB k = true) : fmA k = fmtL k ∧ fmE k = 0 := by unfold fmA fmE; rw [h]; exact ⟨rfl, rfl⟩
theorem fmtL_small (n : Nat) : ∀ x ∈ fmtL n, x.size ≤ maxLen := by
 intro s hs
 obtain ⟨i, hi, hx⟩ := List.getElem_of_mem hs
 rw [fmtL_length] at hi
 have := fmtL_get hi
 rw [List.getElem?_eq_getElem (by rw [fmtL_length]; exact hi), hx] at this
 rw [Option.some.inj this]
 have h4 : (4096 : Nat) ≤ maxLen := by decide
 split
 ·
  exact Nat.le_trans ((okS_iff _).1 (mapS_ok _ _)).1 h4
 ·
  split
  ·
   exact Nat.le_trans ((okS_iff _).1 (suS_ok _ _ _ _)).1 h4
  ·
   exact Nat.zero_le _
end Plain
open Go.RowKit Plain
set_option linter.unusedVariables false
theorem RowT.setOther {w : World} {g cap h i : Nat} {l : List Bool} {v : Value} (hr : RowT w g cap l) (hn : g ≠ h) : RowT (w.setCell ⟨h, i, none⟩ v) g cap l := by
 obtain ⟨cur, hg, hr⟩ := hr
 exact ⟨cur, by rw [Below.heap_setCell _ _ _ _ hn]; exact hg, hr⟩
set_option maxRecDepth 20000 in
set_option maxHeartbeats 4000000 in
theorem format_any (n : Int) (w : World) :
  Calls Tryz.prog 7 #[.int .i64 n] w fun e w' => ∃ a c, e = .returned (.tuple #[.agg #[.slice a (fmA n).length c, .slice none 0 0], .int .i64 (fmE n)]) ∧ IsS w' a c (fmA n) ∧ Below w.heap.size w w' := by
 obtain ⟨W0, hW0⟩ : ∃ W0, W0 = w.alloc (.cells #[.slice none 0 0, .slice none 0 0] 25) := ⟨_, rfl⟩
 have HB : Below w.heap.size w W0 := by rw [hW0]; exact (Below.refl _ _).alloc (Nat.le_refl _) _
 have bO : BoxL W0 w.heap.size [.slice none 0 0, .slice none 0 0] := by rw [hW0]; exact boxL_new w _ _ rfl
 have cN := allocNew_any n W0
 cases hm : mayB n with
 | false =>
  obtain ⟨e1, e2⟩ := mayB_no hm
  obtain ⟨e3, e4⟩ := fm_no hm
  rw [e1, e2, List.length_nil] at cN
  rw [e3, e4]
  clear e1 e2 e3 e4 hm
  go_enter Tryz.func7, Tryz.ntmps7
  go_wp2_with (go_at_call 24; rw [← hW0]; refine cN.mono ?_; rintro e w1 ⟨a1, c1, a2, c2, rfl, _, _, hb⟩; have hC := (Below.refl w1.heap.size w1).alloc (Nat.le_refl _) (.cells #[.slice a1 0 c1, .slice a2 0 c2] 38); replace HB := Below.tr (Below.tr HB hb) hC; replace bO := (bO.below hb).below hC; have q0 := bO.1 0 _ rfl; have q1 := bO.1 1 _ rfl; have f0 := bO.2 0 (by simp); have f1 := bO.2 1 (by simp))
  refine bodyPost_ret (v := .tuple #[.agg #[.slice none 0 0, .slice none 0 0], .int .i64 1]) (by simp [results, Tryz.results7, go_sem, q0, q1]) rfl ⟨none, 0, rfl, IsS_nil _, below_set2 HB (Nat.le_refl _)⟩
 | true =>
  obtain ⟨h1, h2⟩ := mayB_iff.1 hm
  obtain ⟨k, rfl⟩ : ∃ k : Nat, n = k := ⟨n.toNat, by omega⟩
  obtain ⟨e1, e2⟩ := mayB_yes hm
  obtain ⟨e3, e4⟩ := fm_yes hm
  rw [e1, e2, freshL_length] at cN
  rw [e3, e4, fmtL_length]
  have hk1 : 24 ≤ k := by omega
  have hk2 : k ≤ 2048 := by omega
  obtain ⟨_, t1, t2, t3, t4⟩ := fmt_take hk1 hk2
  have cT : ∀ (V : World) (a1 a2 : Option Addr) (c1 c2 : Nat), IsB V a1 c1 (freshL k) → IsB V a2 c2 (freshL k) → Calls Tryz.prog 25 #[.agg #[.slice a1 k c1, .slice a2 k c2]] V fun e w' => ∃ a1 c1 g2 c2, e = .returned (.tuple #[.agg #[.slice a1 k c1, .slice (some ⟨g2, 0, none⟩) k c2], .int .i64 10, .int .i64 0]) ∧ V.heap.size ≤ g2 ∧ RowT w' g2 c2 (usedL k 11) ∧ Below V.heap.size V w' := by
   intro V a1 a2 c1 c2 h1 h2
   have := allocTake_any a1 a2 c1 c2 k k (freshL k) (freshL k) V (freshL_length k).symm (freshL_length k).symm h1 h2
   rw [t1, t2, t3, t4, freshL_length, usedL_length] at this
   refine this.mono fun e w' ⟨a1, c1, a2, c2, h1, h2, h3, h4⟩ => ?_
   rcases h3 with ⟨_, _, hh⟩ | ⟨g2, rfl, hg, hr⟩
   ·
    have := congrArg List.length hh
    rw [usedL_length] at this
    simp at this
    omega
   ·
    exact ⟨a1, c1, g2, c2, h1, hg, hr, h4⟩
  have i0 : (0 : Int) < k := by omega
  have j0 : 0 < k := by omega
  have i10 : (10 : Int) < k := by omega
  have cD := fun W => devNew_row k W (by omega) hk2
  have cS := fun W => superBytes_any 1 0 10 k W
  have cM : ∀ (V : World) (a : Option Addr) (c : Nat), IsB V a c (usedL k 11) → Calls Tryz.prog 28 #[.int .i64 1, .slice a k c] V fun e w' => e = .returned (.string (mapS 1 (usedL k 11))) ∧ Below V.heap.size V w' :=
   fun V a c h => mapBytes_any 1 a c k (usedL k 11) V (usedL_length k 11).symm h (by omega)
  have hF : Hid (fmtL k = ((List.replicate k ByteArray.empty).set 0 (suS 1 0 10 k)).set 10 (mapS 1 (usedL k 11))) := rfl
  have hsm : Hid (∀ x ∈ fmtL k, x.size ≤ maxLen) := fmtL_small k
  obtain ⟨FL, hFL⟩ : ∃ F, F = freshL k := ⟨_, rfl⟩
  obtain ⟨UL, hUL⟩ : ∃ F, F = usedL k 11 := ⟨_, rfl⟩
  obtain ⟨s0, hs0⟩ : ∃ F, F = suS 1 0 10 k := ⟨_, rfl⟩
  rw [← hFL] at cN cT
  rw [← hUL] at cT cM hF
  obtain ⟨s1, hs1⟩ : ∃ F, F = mapS 1 UL := ⟨_, rfl⟩
  rw [← hs0] at cS hF
  rw [← hs1] at cM hF
  obtain ⟨OUT, hOUT⟩ : ∃ F, F = fmtL k := ⟨_, rfl⟩
  rw [← hOUT] at hF hsm ⊢
  clear hFL hUL hs0 hs1 hOUT e1 e2 e3 e4 hm t1 t2 t3 t4
  go_enter Tryz.func7, Tryz.ntmps7
  go_wp2_with (first
   | (go_at_call 24; rw [← hW0]; refine cN.mono ?_; rintro e w1 ⟨a1, c1, a2, c2, rfl, i1, i2, hb⟩; have hlt : w.heap.size < w1.heap.size := Nat.lt_of_lt_of_le (bO.lt (by simp)) hb.size; have hC := (Below.refl w1.heap.size w1).alloc (Nat.le_refl _) (.cells #[.slice a1 k c1, .slice a2 k c2] 38); replace HB := Below.tr (Below.tr HB hb) hC; replace bO := (bO.below hb).below hC; have bA := boxL_new w1 [.slice a1 k c1, .slice a2 k c2] 38 rfl; have I1 : Hid (IsB _ a1 c1 FL) := i1.isB.below hC; have I2 : Hid (IsB _ a2 c2 FL) := i2.isB.below hC; clear hb hC i1 i2)
   | (go_at_call 25; go_loud (refine (cT _ _ _ _ _ I1.out I2.out).mono ?_; rintro e w2 ⟨a3, c3, g4, c4, rfl, hg4, o4, hb⟩; have hg4' : w1.heap.size < g4 := (by have := hg4; simp at this; omega); have hg4l := o4.lt; clear hg4; replace HB := Below.tr HB hb; replace bO := bO.below hb; replace bA := bA.below hb; have O4 : Hid (RowT w2 g4 c4 UL) := o4; clear hb o4 I1 I2; have g0 := bA.1 0 _ rfl; have g1 := bA.1 1 _ rfl; have y0 := bA.2 0 (by simp); have y1 := bA.2 1 (by simp)))
   | (go_at_call 26; go_loud (refine (cD _).mono ?_; rintro e w3 ⟨g, rfl, hg, hrow, hb⟩; have hwg : w2.heap.size ≤ g := (by simpa using hg); have hag : w1.heap.size < g := Nat.lt_of_lt_of_le (bA.lt (by simp)) hwg; have r4 := ((O4.out.setOther (h := w1.heap.size) (i := 0) (v := .slice a3 k c3) (Nat.ne_of_gt hg4')).setOther (h := w1.heap.size) (i := 1) (v := .slice (some ⟨g4, 0, none⟩) k c4) (Nat.ne_of_gt hg4')).below hb; have hbA := bA.setAll [.slice a3 k c3, .slice (some ⟨g4, 0, none⟩) k c4] rfl; have hbO := BoxL.offAll (Nat.ne_of_lt hlt) [.slice a3 k c3, .slice (some ⟨g4, 0, none⟩) k c4] 0 _ bO; have HB2 := Below.setL (Nat.le_of_lt hlt) [.slice a3 k c3, .slice (some ⟨g4, 0, none⟩) k c4] 0 _ HB; replace HB := Below.tr HB2 hb; replace bA := hbA.below hb; replace bO := hbO.below hb; have hC := (Below.refl w3.heap.size w3).alloc (Nat.le_refl _) (.cells #[.slice (some ⟨g, 0, none⟩) k k, .slice none 0 0] 25); have bD := boxL_new w3 [.slice (some ⟨g, 0, none⟩) k k, .slice none 0 0] 25 rfl; replace HB := Below.tr HB hC; replace bA := bA.below hC; replace bO := bO.below hC; have HR : Hid (RowS _ g k _) := hrow.below hC; have hgl := hrow.lt; replace O4 : Hid (RowT _ g4 c4 UL) := r4.below hC; clear r4 hg; clear hb hC hrow hbA hbO HB2 y0 y1 g0 g1)))
  replace bD : BoxL _ w3.heap.size _ := bD
  have hD0 : Below (w3.alloc (.cells #[.slice (some ⟨g, 0, none⟩) k k, .slice none 0 0] 25)).heap.size (w3.alloc (.cells #[.slice (some ⟨g, 0, none⟩) k k, .slice none 0 0] 25)) (w3.alloc (.cells #[.slice (some ⟨g, 0, none⟩) k k, .slice none 0 0] 25)).drew := (Below.refl _ _).drew
  replace HB := Below.tr HB hD0
  replace bA := bA.below hD0
  replace bO := bO.below hD0
  replace bD := bD.below hD0
  replace HR : Hid (RowS _ g k _) := HR.out.below hD0
  replace O4 : Hid (RowT _ g4 c4 UL) := O4.out.below hD0
  clear hD0
  go_region_held3 (fun V => V.cell? ⟨w3.heap.size, 0, none⟩ = some (.slice (some ⟨g, 0, none⟩) k k)) (first | exact bD.1 0 _ rfl | exact (bD.off (Nat.ne_of_gt hgl)).1 0 _ rfl)
   (first
    | (go_at_call 27; refine (cS _).mono ?_; rintro e w4 ⟨rfl, hb⟩; replace HB := Below.tr HB hb; replace bA := bA.below hb; replace bO := bO.below hb; replace bD := bD.below hb; replace HR : Hid (RowS _ g k _) := HR.out.below hb; replace O4 : Hid (RowT _ g4 c4 UL) := O4.out.below hb; clear hb; obtain ⟨r0, rf0⟩ := HR.out.cell (j := 0) (x := ByteArray.empty) (by rw [List.getElem?_replicate, if_pos (by omega)])))
  have hog : w.heap.size < g := Nat.lt_trans hlt hag
  have hn4 : g4 ≠ g := Nat.ne_of_lt (Nat.lt_of_lt_of_le hg4l hwg)
  replace HR : Hid (RowS _ g k ((List.replicate k ByteArray.empty).set 0 s0)) := HR.out.set (by rw [List.length_replicate]; omega) s0
  replace HB := HB.setCell (p := ⟨g, 0, none⟩) (Nat.le_of_lt hog) (.string s0)
  replace bA := bA.off (k := g) (i := 0) (u := .string s0) (Nat.ne_of_lt hag)
  replace bO := bO.off (k := g) (i := 0) (u := .string s0) (Nat.ne_of_lt hog)
  replace bD := bD.off (k := g) (i := 0) (u := .string s0) (Nat.ne_of_gt hgl)
  replace O4 : Hid (RowT _ g4 c4 UL) := O4.out.setOther (h := g) (i := 0) (v := .string s0) hn4
  clear r0 rf0
  generalize w4.setCell ⟨g, 0, none⟩ (.string s0) = V4 at HB HR bA bO bD O4 ⊢
  go_wp2
  have hD0 : Below V4.heap.size V4 V4.drew := (Below.refl _ _).drew
  replace HB := Below.tr HB hD0
  replace bA := bA.below hD0
  replace bO := bO.below hD0
  replace bD := bD.below hD0
  replace HR : Hid (RowS _ g k ((List.replicate k ByteArray.empty).set 0 s0)) := HR.out.below hD0
  replace O4 : Hid (RowT _ g4 c4 UL) := O4.out.below hD0
  clear hD0
  go_region_held3 (fun V => V.cell? ⟨w3.heap.size, 0, none⟩ = some (.slice (some ⟨g, 0, none⟩) k k) ∧ V.cell? ⟨w1.heap.size, 1, none⟩ = some (.slice (some ⟨g4, 0, none⟩) k c4)) (first | exact ⟨bD.1 0 _ rfl, bA.1 1 _ rfl⟩ | exact ⟨(bD.off (Nat.ne_of_gt hgl)).1 0 _ rfl, (bA.off (Nat.ne_of_lt hag)).1 1 _ rfl⟩)
   (first
    | (go_at_call 28; refine (cM _ _ _ O4.out.isB).mono ?_; rintro e w5 ⟨rfl, hb⟩; replace HB := Below.tr HB hb; replace bA := bA.below hb; replace bO := bO.below hb; replace bD := bD.below hb; replace HR : Hid (RowS _ g k ((List.replicate k ByteArray.empty).set 0 s0)) := HR.out.below hb; replace O4 : Hid (RowT _ g4 c4 UL) := O4.out.below hb; clear hb; obtain ⟨r0, rf0⟩ := HR.out.cell (j := 10) (x := ByteArray.empty) (by rw [List.getElem?_set_ne (by decide), List.getElem?_replicate, if_pos (by omega)])))
  replace HR : Hid (RowS (w5.setCell ⟨g, 10, none⟩ (.string s1)) g k OUT) := by show RowS _ _ _ _; rw [hF.out]; exact HR.out.set (by rw [List.length_set, List.length_replicate]; omega) s1
  replace HB := HB.setCell (p := ⟨g, 10, none⟩) (Nat.le_of_lt hog) (.string s1)
  replace bA := bA.off (k := g) (i := 10) (u := .string s1) (Nat.ne_of_lt hag)
  replace bO := bO.off (k := g) (i := 10) (u := .string s1) (Nat.ne_of_lt hog)
  replace bD := bD.off (k := g) (i := 10) (u := .string s1) (Nat.ne_of_gt hgl)
  replace O4 : Hid (RowT _ g4 c4 UL) := O4.out.setOther (h := g) (i := 10) (v := .string s1) hn4
  clear r0 rf0
  generalize w5.setCell ⟨g, 10, none⟩ (.string s1) = V5 at HB HR bA bO bD O4 ⊢
  have q0 := bO.1 0 _ rfl
  have q1 := bO.1 1 _ rfl
  have f0 := bO.2 0 (by simp)
  have f1 := bO.2 1 (by simp)
  have p0 := bD.1 0 _ rfl
  have p1 := bD.1 1 _ rfl
  go_wp2
  refine bodyPost_ret (v := .tuple #[.agg #[.slice (some ⟨g, 0, none⟩) k k, .slice none 0 0], .int .i64 0]) (by simp [results, Tryz.results7, go_sem, q0, q1]) rfl ⟨_, _, rfl, ?_, below_set2 HB (Nat.le_refl _)⟩
  exact ((HR.out.setOther (Nat.ne_of_gt hog)).setOther (Nat.ne_of_gt hog)).isS hsm.out
end Go.Proofs.YtaobfgplheoefaaGreat
namespace Go.Proofs.YtaobfgplheoefaaGreat.Plain
open Go.RowKit Go.Proofs.YtaobfgplheoefaaGreat
theorem fmt_pg24 : checkE true (usedL 24 11) TreeS.none [10] = 0 := by decide +kernel
theorem fmt_ra24 : rightA (usedL 24 11) (usedL 24 11) = true := by decide +kernel
theorem fmt_mount : mtE (fmtL 24) [] (suS 1 0 10 24) = 0 := by
 obtain ⟨s0, s1, s2, s3, s4⟩ := su_back (su_fmt (n := 24) (by omega) (by omega))
 obtain ⟨u0, u1⟩ := mapS_us (g := 1) (h := 1) (l := usedL 24 11) (by omega) (by omega) (by omega) (by rw [usedL_length]; omega)
 rw [usedL_length] at u0 u1
 have hb : blk (fmtL 24) (suM (suS 1 0 10 24)).toNat = mapS 1 (usedL 24 11) := by
  have e3 : suM (suS 1 0 10 24) = 10 := s3
  rw [e3]
  exact fmtL_blk (by omega)
 have e1 : suG (suS 1 0 10 24) = 1 := s1
 have e2 : suR (suS 1 0 10 24) = 0 := s2
 have e3 : suM (suS 1 0 10 24) = 10 := s3
 have e4 : suZ (suS 1 0 10 24) = 24 := s4
 have hU : wdU (fmtL 24) (suS 1 0 10 24) = usedL 24 11 := by
  unfold wdU; rw [hb, e1, e4]; exact u1
 refine mt_ok ⟨fmtL_right (by omega) (by omega), rfl⟩ ⟨?_, ?_, ?_⟩ ?_
 ·
  unfold chE; rw [e1]; rfl
 ·
  rw [e4, fmtL_length]; rfl
 ·
  rw [e1]; decide
 ·
  rw [wd_pa (by rw [hb, e1, e4]; exact u0), hU, e1, e2, e3]
  unfold paE
  have hr : rightW (usedL 24 11) (usedL 24 11) (pgL (fmtL 24) (usedL 24 11)) 0 (1 + 1) = true := by
   unfold rightW
   rw [fmt_ra24, pgL_length]
   simp
   intro s hs
   obtain ⟨i, hi, hx⟩ := List.getElem_of_mem hs
   rw [pgL_length] at hi
   have := pgL_get (fmtL 24) (List.getElem?_eq_getElem hi)
   rw [List.getElem?_eq_getElem (by rw [pgL_length]; exact hi), hx] at this
   rw [Option.some.inj this]
   split
   ·
    rw [usedL_length] at hi
    rw [fmtL_blk hi]
    split
    ·
     exact ((okS_iff _).1 (mapS_ok _ _)).1
    ·
     split
     ·
      exact ((okS_iff _).1 (suS_ok _ _ _ _)).1
     ·
      decide
   ·
    decide
  rw [hr]
  have ht : treeS (usedL 24 11) (pgL (fmtL 24) (usedL 24 11)) 0 (1 + 1) = TreeS.none := if_pos rfl
  rw [ht]
  exact fmt_pg24
theorem scan_none (g : Int) (l : List ByteArray) : scanR g 0 (ByteArray.empty :: l) = [] := by
 unfold scanR
 rw [if_neg (fun hh => ?_)]
 have := (rgE_ok hh.1).1
 have r := read_none
 have : readE ByteArray.empty = 41 := r
 omega
end Go.Proofs.YtaobfgplheoefaaGreat.Plain
namespace Go.Proofs.YtaobfgplheoefaaGreat
open Go.RowKit Plain
set_option linter.unusedVariables false
theorem alive_best : Best [readS (fmtL 24) [] 0, readS (fmtL 24) [] 1] (suS 1 0 10 24) 0 := by
 have hr := fmtL_right (n := 24) (by omega) (by omega)
 have e0 := readS_ok (k := 0) hr (by rw [fmtL_length]; omega)
 have e1 := readS_ok (k := 1) hr (by rw [fmtL_length]; omega)
 rw [fmtL_blk (by omega), if_neg (by decide), if_pos rfl] at e0
 rw [fmtL_blk (by omega), if_neg (by decide), if_neg (by decide)] at e1
 have := fmt_best (n := 24) (by omega) (by omega)
 rw [show readS (fmtL 24) [] 0 = _ from e0, show readS (fmtL 24) [] 1 = _ from e1]
 exact this
theorem alive_scan (g : Int) : scanR g 0 (((fmtL 24).take 10).drop 2) = [] := by
 have h2 : (((fmtL 24).take 10).drop 2)[0]? = some ByteArray.empty := by
  rw [List.getElem?_drop, List.getElem?_take, if_pos (by omega), fmtL_get (by omega), if_neg (by decide), if_neg (by decide)]
 cases h : ((fmtL 24).take 10).drop 2 with
 | nil => rw [h] at h2; cases h2
 | cons x l =>
  rw [h] at h2
  obtain rfl := Option.some.inj h2
  exact scan_none g l
theorem mount_fmt (W : World) (a : Option Addr) (c : Nat) (hS : IsS W a c (fmtL 24)) :
  Calls Tryz.prog 12 #[.agg #[.slice a 24 c, .slice none 0 0]] W fun e w' => ∃ a1 c1 a2 c2 a3 c3 a4 c4 k k', e = .returned (.tuple #[.agg #[.int .i64 1, .int .i64 0, .int .i64 10, .int .i64 24, .int .i64 0, .slice a1 k c1, .slice a2 k c2, .slice a3 k' c3, .int .i64 0, .int .i64 2, .slice a4 0 c4], .int .i64 0]) ∧ Below W.heap.size W w' := by
 have hm := mount_any a none 24 0 c 0 (fmtL 24) [] (suS 1 0 10 24) 0 W (fmtL_length 24).symm rfl hS (IsP_nil _) alive_best
 have hE := fmt_mount
 refine hm.mono fun e w' ⟨v, he, hf, hb⟩ => ?_
 obtain ⟨a1, c1, a2, c2, a3, c3, a4, c4, rfl, -⟩ := hf
 obtain ⟨s0, s1, s2, s3, s4⟩ := su_back (su_fmt (n := 24) (by omega) (by omega))
 have e1 : suG (suS 1 0 10 24) = 1 := s1
 have e2 : suR (suS 1 0 10 24) = 0 := s2
 have e3 : suM (suS 1 0 10 24) = 10 := s3
 have e4 : suZ (suS 1 0 10 24) = 24 := s4
 refine ⟨a1, c1, a2, c2, a3, c3, a4, c4, (wdU (fmtL 24) (suS 1 0 10 24)).length, (pgL (fmtL 24) (wdU (fmtL 24) (suS 1 0 10 24))).length, ?_, hb⟩
 rw [he, mtN_ok hE, mtN_ok hE, mtN_ok hE, mtN_ok hE, mtN_ok hE, mtI_ok hE, mtL_ok hE, mtL_ok hE, mtL_ok hE, alive_scan, hE, e1, e2, e3, e4]
 rfl
set_option maxRecDepth 20000 in
set_option maxHeartbeats 2000000 in
theorem alive14_any (w : World) :
  Calls Tryz.prog 8 #[] w fun e w' => e = .returned (.bool true) ∧ Below w.heap.size w w' := by
 have cF : Calls Tryz.prog 7 #[.int .i64 24] w fun e w' => ∃ a c, e = .returned (.tuple #[.agg #[.slice a 24 c, .slice none 0 0], .int .i64 0]) ∧ IsS w' a c (fmtL 24) ∧ Below w.heap.size w w' := by
  have := format_any ((24 : Nat) : Int) w
  obtain ⟨e1, e2⟩ := fm_yes (k := 24) (by decide)
  rw [e1, e2, fmtL_length] at this
  exact this
 have cM := mount_fmt
 obtain ⟨L, hL⟩ : ∃ L, L = fmtL 24 := ⟨_, rfl⟩
 rw [← hL] at cF cM
 clear hL
 go_enter Tryz.func8, Tryz.ntmps8
 go_wp2_with (first
  | (go_at_call 7; refine cF.mono ?_; rintro e w1 ⟨a, c, rfl, hS, hb⟩; have hC := (Below.refl w1.heap.size w1).alloc (Nat.le_refl _) (.cells #[.slice a 24 c, .slice none 0 0] 25); have HB := Below.tr hb hC; have bD := boxL_new w1 [.slice a 24 c, .slice none 0 0] 25 rfl; replace hS := hS.below hC; have d0 := bD.1 0 _ rfl; have d1 := bD.1 1 _ rfl; clear hb hC)
  | (go_at_call 12; refine (cM _ a c hS).mono ?_; rintro e w2 ⟨a1, c1, a2, c2, a3, c3, a4, c4, k, k', rfl, hb⟩; have hC := (Below.refl w2.heap.size w2).alloc (Nat.le_refl _) (.cells #[.int .i64 1, .int .i64 0, .int .i64 10, .int .i64 24, .int .i64 0, .slice a1 k c1, .slice a2 k c2, .slice a3 k' c3, .int .i64 0, .int .i64 2, .slice a4 0 c4] 42); replace HB := Below.tr (Below.tr HB hb) hC; have bF := boxL_new w2 [.int .i64 1, .int .i64 0, .int .i64 10, .int .i64 24, .int .i64 0, .slice a1 k c1, .slice a2 k c2, .slice a3 k' c3, .int .i64 0, .int .i64 2, .slice a4 0 c4] 42 rfl; have q0 := bF.1 0 _ rfl; have q1 := bF.1 1 _ rfl; have q2 := bF.1 2 _ rfl; have q3 := bF.1 3 _ rfl; have q10 := bF.1 10 _ rfl; clear hb hC))
 go_ret
 exact ⟨ret_bool (by simp), HB⟩
theorem pushT_any (W : World) (base : Nat) (v : Value) (n : Nat) (l : List Bool) (x : Bool) (hown : W.ownsRow base 4 1 v n (l.map Value.bool)) (hb : base ≤ W.heap.size) (hn : n ≤ 4096) :
  ∃ g cap w', (Builtin.append_ #[36, 36] 36 #[v, .slice (some ⟨W.heap.size, 0, none⟩) 1 1]).run Tryz.prog (W.alloc (.cells #[.bool x] 4)) = .ok (.slice (some ⟨g, 0, none⟩) (n + 1) cap) w' ∧
   w'.ownsRow base 4 1 (.slice (some ⟨g, 0, none⟩) (n + 1) cap) (n + 1) ((l ++ [x]).map Value.bool) ∧ (W.alloc (.cells #[.bool x] 4)).grownBy w' v.ownBlock ∧ (v.ownBlock = some g ∨ g = W.heap.size + 1) ∧ base ≤ g := by
 obtain ⟨i0, hi, hz0, hz1, hz2⟩ := info_parts Tryz.info4
 obtain ⟨g, cap, w', h1, h2, h3, h4, h5⟩ := run_append_lies (P := Tryz.prog) (W.alloc (.cells #[.bool x] 4)) 36 36 base 4 i0 _ 1 1 Tryz.underlying36 hi hz0 hz1 hz2 rfl (by decide) v n (l.map Value.bool) (hown.alloc _) ⟨W.heap.size, 0, none⟩ 1 1 [.bool x] rfl
  (by
   intro j u hj
   match j, hj with
   | 0, hj => simp at hj; subst hj; rw [at_add]; exact World.cell?_alloc_at _ _ _ _ rfl)
  (by intro u hu; simp at hu; subst hu; rfl) (by omega) (by unfold maxLen; omega) (by omega) (by simp; omega) (W.heap.size + 1) (by simp)
 refine ⟨g, cap, w', h1, by rw [List.map_append]; exact h2, h3, h4, ?_⟩
 obtain ⟨g', cap', he, hb', _⟩ := h2.form (by omega)
 cases he
 exact hb'
theorem BoxL.grown {w w' : World} {row : Option Nat} {h : Nat} {vs : List Value} (b : BoxL w h vs) (hg : w.grownBy w' row) (hr : ∀ k, row = some k → h < k) : BoxL w' h vs := by
 refine ⟨fun i v hv => ?_, fun i hi => ?_⟩
 ·
  have hc := b.1 i v hv
  rw [World.cell?_of_block (w := w) (hg.block h (cell_lt hc) (fun he => by have := hr h he.symm; omega))]; exact hc
 ·
  rw [World.frozen?_of_block (w := w) (hg.block h (b.lt (by omega)) (fun he => by have := hr h he.symm; omega))]; exact b.2 i hi
set_option maxRecDepth 20000 in
theorem refMapPage_any (g : Int) (a : Option Addr) (c n : Nat) (l : List Bool) (w : World) (hn : n = l.length) (hB : IsB w a c l) (hl : n ≤ 2048) (h0 : 0 ≤ g) (h1 : g ≤ 1099511627776) :
  Calls Tryz.prog 30 #[.int .i64 g, .slice a n c] w fun e w' => e = .returned (.string (mapS g l)) ∧ Below w.heap.size w w' := by
 have cK := refPack_any a c l w hB (by omega)
 rw [← hn] at cK
 have cP := fun W => refPagePut_any 3 g (packS l) W (mapS_right h0 h1 (by omega))
 rw [show pageS 3 g (packS l) = mapS g l from rfl] at cP
 obtain ⟨s, hs⟩ : ∃ s, s = mapS g l := ⟨_, rfl⟩
 obtain ⟨p, hp⟩ : ∃ p, p = packS l := ⟨_, rfl⟩
 rw [← hs, ← hp] at cP
 rw [← hp] at cK
 rw [← hs]
 clear hs hp hn hB
 go_enter Tryz.func30, Tryz.ntmps30
 go_wp2_with (first
  | (go_at_call 69; refine cK.mono ?_; rintro e w1 ⟨rfl, hB⟩)
  | (go_at_call 68; refine (cP _).mono ?_; rintro e w2 ⟨rfl, hb⟩; replace hB := Below.tr hB hb))
 go_ret
 exact ⟨rfl, hB⟩
theorem usedL_app (j : Nat) : usedL (j + 1) 11 = usedL j 11 ++ [decide ((j : Int) ≤ 10)] := by
 unfold usedL
 rw [List.range_succ, List.map_append]
 congr 1
 simp
 omega
theorem ownsRow_S {w : World} {base : Nat} {v : Value} {l : List ByteArray} (h : w.ownsRow base 9 1 v l.length (l.map Value.string)) : (v = .slice none 0 0 ∧ l = []) ∨ ∃ g cap, v = .slice (some ⟨g, 0, none⟩) l.length cap ∧ base ≤ g ∧ RowS w g cap l := by
 rcases h.2 with ⟨h1, h2⟩ | ⟨g, cap, cur, rfl, hg, hcur, hnc, hcm, hsz, htk⟩
 ·
  exact .inl ⟨h1, List.length_eq_zero_iff.1 h2⟩
 ·
  exact .inr ⟨g, cap, rfl, hg, cur, hcur, by simpa using htk, by omega, hcm, by omega⟩
theorem rowsRow_empty (W : World) (e : TypeId) {g base : Nat} (hg : g = W.heap.size) (hb : base ≤ g) : (W.alloc (.cells #[] e)).ownsRow base e 1 (.slice (some ⟨g, 0, none⟩) 0 0) 0 [] := by
 subst hg
 exact ⟨rfl, .inr ⟨_, 0, #[], rfl, hb, heap_new W _, by omega, by decide, by simp, by simp⟩⟩
set_option maxRecDepth 20000 in
set_option maxHeartbeats 4000000 in
theorem refFormat_any (n : Nat) (w : World) (hn1 : 24 ≤ n) (hn : n ≤ 2048) :
  Calls Tryz.prog 10 #[.int .i64 n] w fun e w' => ∃ a c, e = .returned (.agg #[.slice a n c, .slice none 0 0]) ∧ IsS w' a c (fmtL n) ∧ Below w.heap.size w w' := by
 obtain ⟨W, hW⟩ : ∃ W, W = (w.alloc (.cells #[.slice none 0 0, .slice none 0 0] 25)).alloc (.cells #[.slice none 0 0, .slice none 0 0] 25) := ⟨_, rfl⟩
 have HB : Below w.heap.size w W := by rw [hW]; exact ((Below.refl _ _).alloc (Nat.le_refl _) _).alloc (by simp) _
 have bO : BoxL W w.heap.size [.slice none 0 0, .slice none 0 0] := by rw [hW]; exact (boxL_new w _ _ rfl).alloc _
 have bD : BoxL W (w.heap.size + 1) [.slice none 0 0, .slice none 0 0] := by rw [hW]; exact boxL_new _ _ _ (by simp)
 have hWs : W.heap.size = w.heap.size + 2 := by rw [hW]; simp
 have i0 : (0 : Int) < n := by omega
 have j0 : 0 < n := by omega
 have i10 : (10 : Int) < n := by omega
 have cS := fun W => refSuPut_any 1 0 10 n W (su_fmt hn1 hn)
 have cM : ∀ (V : World) (a : Option Addr) (c : Nat), IsB V a c (usedL n 11) → Calls Tryz.prog 30 #[.int .i64 1, .slice a n c] V fun e w' => e = .returned (.string (mapS 1 (usedL n 11))) ∧ Below V.heap.size V w' :=
  fun V a c h => refMapPage_any 1 a c n (usedL n 11) V (usedL_length n 11).symm h hn (by omega) (by omega)
 have hF : Hid (fmtL n = ((List.replicate n ByteArray.empty).set 0 (suS 1 0 10 n)).set 10 (mapS 1 (usedL n 11))) := rfl
 have hsm : Hid (∀ x ∈ fmtL n, x.size ≤ maxLen) := fmtL_small n
 obtain ⟨s0, hs0⟩ : ∃ F, F = suS 1 0 10 n := ⟨_, rfl⟩
 obtain ⟨s1, hs1⟩ : ∃ F, F = mapS 1 (usedL n 11) := ⟨_, rfl⟩
 rw [← hs0] at cS hF
 rw [← hs1] at cM hF
 obtain ⟨OUT, hOUT⟩ : ∃ F, F = fmtL n := ⟨_, rfl⟩
 rw [← hOUT] at hF hsm ⊢
 clear hs0 hs1 hOUT
 have hst : (W.alloc (.cells #[] 4)).ownsRow (w.heap.size + 2) 4 1 (.slice (some ⟨w.heap.size + 1 + 1, 0, none⟩) 0 0) 0 ((usedL 0 11).map Value.bool) := rowsRow_empty W _ (by omega) (by omega)
 go_enter Tryz.func10, Tryz.ntmps10
 go_wp2
 rw [← hW]
 go_loopw [4, 5] (fun u v wr => ∃ (j : Nat) (v0 : Value), j ≤ n ∧ v = .int .i64 j ∧ BoxL wr w.heap.size [.slice none 0 0, .slice none 0 0] ∧ BoxL wr (w.heap.size + 1) [v0, .slice none 0 0] ∧ wr.ownsRow (w.heap.size + 2) 4 1 u j ((usedL j 11).map Value.bool) ∧ wr.ownsRow (w.heap.size + 2) 9 1 v0 j ((List.replicate j ByteArray.empty).map Value.string) ∧ (∀ g, u.ownBlock = some g → v0.ownBlock ≠ some g) ∧ Below w.heap.size w wr ∧ w.heap.size + 2 ≤ wr.heap.size) (fun _ v _ => n - (intOf v).toNat)
 case atStart =>
  exact ⟨0, .slice none 0 0, by omega, rfl, bO.alloc _, bD.alloc _, hst, ⟨rfl, .inl ⟨rfl, rfl⟩⟩, fun g _ h => (by simp [Value.ownBlock] at h), HB.alloc HB.size _, by simp; omega⟩
 case round =>
  clear bO bD hst HB hW hWs
  obtain ⟨j, v0, hj, rfl, bO, bD, r0, r1, hap, hbel, hsz⟩ := hrel
  by_cases hlt : j < n
  ·
   have hlt' : (j : Int) < n := by omega
   obtain ⟨x, hx⟩ : ∃ x, x = decide ((j : Int) ≤ 10) := ⟨_, rfl⟩
   have hnx : usedL (j + 1) 11 = usedL j 11 ++ [x] := by rw [usedL_app, hx]
   obtain ⟨g0, cap0, w1, run0, own0, gr0, at0, ge0⟩ := pushT_any wr (w.heap.size + 2) u4 j (usedL j 11) x r0 hsz (by omega)
   have hrow0 : ∀ k, u4.ownBlock = some k → w.heap.size + 1 < k := fun k hk => by have := (r0.lt k hk).1; omega
   have bO1 := (bO.alloc (.cells #[.bool x] 4)).grown gr0 (fun k hk => by have := hrow0 k hk; omega)
   have bD1 := (bD.alloc (.cells #[.bool x] 4)).grown gr0 hrow0
   have r1' : w1.ownsRow (w.heap.size + 2) 9 1 v0 j ((List.replicate j ByteArray.empty).map Value.string) := (r1.alloc _).kept gr0 (by
    cases h : v0.ownBlock with
    | none => exact .inl rfl
    | some k => exact .inr (fun he => hap k he.symm h))
   have hap1 : ∀ k, v0.ownBlock = some k → k ≠ g0 := by
    intro k hk he
    subst he
    rcases at0 with h | h
    ·
     exact hap k h hk
    ·
     have := (r1.lt k hk).2; omega
   have hb1 : Below w.heap.size w w1 := (hbel.alloc (by omega) _).grown gr0 (by simp; omega) (fun k hk => by have := hrow0 k hk; omega)
   have hsz1 : w.heap.size + 2 ≤ w1.heap.size := by have := gr0.size; simp at this; omega
   have g0lt : g0 < w1.heap.size := (own0.lt g0 rfl).2
   obtain ⟨g1, cap1, w2, run1, own1, gr1, at1, ge1, _⟩ := push_S w1 (w.heap.size + 2) v0 j (List.replicate j ByteArray.empty) ByteArray.empty r1' hsz1 (by omega)
   have hrow1 : ∀ k, v0.ownBlock = some k → w.heap.size + 1 < k := fun k hk => by have := (r1'.lt k hk).1; omega
   have bO2 := (bO1.alloc (.cells #[.string ByteArray.empty] 9)).grown gr1 (fun k hk => by have := hrow1 k hk; omega)
   have bD2 := (bD1.alloc (.cells #[.string ByteArray.empty] 9)).grown gr1 hrow1
   have own0' : w2.ownsRow (w.heap.size + 2) 4 1 (.slice (some ⟨g0, 0, none⟩) (j + 1) cap0) (j + 1) ((usedL j 11 ++ [x]).map Value.bool) := (own0.alloc _).kept gr1 (.inr (fun he => hap1 g0 he.symm rfl))
   have hne : g0 ≠ g1 := by
    intro he
    rcases at1 with h | h
    ·
     exact hap1 g1 h he.symm
    ·
     omega
   have hb2 : Below w.heap.size w w2 := (hb1.alloc (by omega) _).grown gr1 (by simp; omega) (fun k hk => by have := hrow1 k hk; omega)
   have hsz2 : w.heap.size + 2 ≤ w2.heap.size := by have := gr1.size; simp at this; omega
   have own1' : w2.ownsRow (w.heap.size + 2) 9 1 (.slice (some ⟨g1, 0, none⟩) (j + 1) cap1) (j + 1) ((List.replicate (j + 1) ByteArray.empty).map Value.string) := by rw [List.replicate_succ']; exact own1
   have HF : Hid (BoxL (w2.setCell ⟨w.heap.size + 1, 0, none⟩ (.slice (some ⟨g1, 0, none⟩) (j + 1) cap1)) w.heap.size [.slice none 0 0, .slice none 0 0] ∧ BoxL (w2.setCell ⟨w.heap.size + 1, 0, none⟩ (.slice (some ⟨g1, 0, none⟩) (j + 1) cap1)) (w.heap.size + 1) [.slice (some ⟨g1, 0, none⟩) (j + 1) cap1, .slice none 0 0] ∧ (w2.setCell ⟨w.heap.size + 1, 0, none⟩ (.slice (some ⟨g1, 0, none⟩) (j + 1) cap1)).ownsRow (w.heap.size + 2) 4 1 (.slice (some ⟨g0, 0, none⟩) (j + 1) cap0) (j + 1) ((usedL (j + 1) 11).map Value.bool) ∧ (w2.setCell ⟨w.heap.size + 1, 0, none⟩ (.slice (some ⟨g1, 0, none⟩) (j + 1) cap1)).ownsRow (w.heap.size + 2) 9 1 (.slice (some ⟨g1, 0, none⟩) (j + 1) cap1) (j + 1) ((List.replicate (j + 1) ByteArray.empty).map Value.string) ∧ (∀ g, (Value.slice (some ⟨g0, 0, none⟩) (j + 1) cap0).ownBlock = some g → (Value.slice (some ⟨g1, 0, none⟩) (j + 1) cap1).ownBlock ≠ some g) ∧ Below w.heap.size w (w2.setCell ⟨w.heap.size + 1, 0, none⟩ (.slice (some ⟨g1, 0, none⟩) (j + 1) cap1)) ∧ w.heap.size + 2 ≤ (w2.setCell ⟨w.heap.size + 1, 0, none⟩ (.slice (some ⟨g1, 0, none⟩) (j + 1) cap1)).heap.size) := by
    refine ⟨bO2.off (by omega), bD2.set 0 _, by rw [hnx]; exact ownsRow_setCell_below own0' (a := ⟨w.heap.size + 1, 0, none⟩) (by show w.heap.size + 1 < _; omega) _, ownsRow_setCell_below own1' (a := ⟨w.heap.size + 1, 0, none⟩) (by show w.heap.size + 1 < _; omega) _, ?_, hb2.setCell (p := ⟨w.heap.size + 1, 0, none⟩) (Nat.le_succ _) _, by simpa using hsz2⟩
    intro g h1 h2
    simp [Value.ownBlock] at h1 h2
    omega
   have q0 := bD.1 0 _ rfl
   have q0' := bD1.1 0 _ rfl
   have k0 := bD2.1 0 _ rfl
   have k2 := bD2.2 0 (by simp)
   have t1 : True := trivial
   clear r0 r1 hap hbel hsz own0 gr0 at0 bO1 bD1 r1' hap1 hb1 hsz1 g0lt own1 gr1 at1 bO2 bD2 own0' hne hb2 hsz2 own1' hnx bO bD hrow0 hrow1 ge0 ge1
   by_cases h10 : (j : Int) ≤ 10
   ·
    obtain rfl : x = true := by rw [hx]; simp [h10]
    clear hx
    go_wp2_with (first
     | (at_builtin; have _t := t1; refine Lib.wpList_append_run _ rfl _ _ _ _ rfl _ _ rfl rfl _ _ run0 ?_; clear t1)
     | (at_builtin; refine Lib.wpList_append_run _ rfl _ _ _ _ rfl _ _ rfl rfl _ _ run1 ?_))
    go_roundw
    case rel => exact ⟨j + 1, .slice (some ⟨g1, 0, none⟩) (j + 1) cap1, by omega, by go_num, HF.out⟩
    case measure => simp [intOf]; omega
   ·
    obtain rfl : x = false := by rw [hx]; simp [h10]
    clear hx
    go_wp2_with (first
     | (at_builtin; have _t := t1; refine Lib.wpList_append_run _ rfl _ _ _ _ rfl _ _ rfl rfl _ _ run0 ?_; clear t1)
     | (at_builtin; refine Lib.wpList_append_run _ rfl _ _ _ _ rfl _ _ rfl rfl _ _ run1 ?_))
    go_roundw
    case rel => exact ⟨j + 1, .slice (some ⟨g1, 0, none⟩) (j + 1) cap1, by omega, by go_num, HF.out⟩
    case measure => simp [intOf]; omega
  ·
   obtain rfl : j = n := by omega
   obtain ⟨gT, cT, rfl, hgT, rT⟩ : ∃ g cap, u4 = .slice (some ⟨g, 0, none⟩) j cap ∧ w.heap.size + 2 ≤ g ∧ RowT wr g cap (usedL j 11) := by
    have hl := usedL_length j 11
    have r0' : wr.ownsRow (w.heap.size + 2) 4 1 u4 (usedL j 11).length ((usedL j 11).map Value.bool) := by rw [hl]; exact r0
    rcases ownsRow_T r0' with ⟨_, h⟩ | ⟨g, cap, h1, h2, h3⟩
    ·
     have := congrArg List.length h; rw [hl] at this; simp at this; omega
    ·
     exact ⟨g, cap, by rw [h1, hl], h2, h3⟩
   obtain ⟨g, cS2, rfl, hgS, rS⟩ : ∃ g cap, v0 = .slice (some ⟨g, 0, none⟩) j cap ∧ w.heap.size + 2 ≤ g ∧ RowS wr g cap (List.replicate j ByteArray.empty) := by
    have hl := List.length_replicate (n := j) (a := ByteArray.empty)
    have r1' : wr.ownsRow (w.heap.size + 2) 9 1 v0 (List.replicate j ByteArray.empty).length ((List.replicate j ByteArray.empty).map Value.string) := by rw [hl]; exact r1
    rcases ownsRow_S r1' with ⟨_, h⟩ | ⟨g, cap, h1, h2, h3⟩
    ·
     have := congrArg List.length h; rw [hl] at this; simp at this; omega
    ·
     exact ⟨g, cap, by rw [h1, hl], h2, h3⟩
   have hTS : gT ≠ g := fun h => hap gT rfl (by rw [h]; rfl)
   have hog : w.heap.size < g := by omega
   have hdg : w.heap.size + 1 < g := by omega
   have HB := hbel
   have O4 : Hid (RowT wr gT cT (usedL j 11)) := rT
   have HR : Hid (RowS wr g cS2 (List.replicate j ByteArray.empty)) := rS
   clear r0 r1 rT rS hap hbel hsz hgT hgS
   go_wp2
   have hD0 : Below wr.heap.size wr wr.drew := (Below.refl _ _).drew
   replace HB := Below.tr HB hD0
   replace bO := bO.below hD0
   replace bD := bD.below hD0
   replace HR : Hid (RowS wr.drew g cS2 _) := HR.out.below hD0
   replace O4 : Hid (RowT wr.drew gT cT (usedL j 11)) := O4.out.below hD0
   clear hD0
   go_region_held3 (fun V => V.cell? ⟨w.heap.size + 1, 0, none⟩ = some (.slice (some ⟨g, 0, none⟩) j cS2)) (first | exact bD.1 0 _ rfl | exact (bD.off (Nat.ne_of_lt hdg)).1 0 _ rfl)
    (first
     | (go_at_call 29; refine (cS _).mono ?_; rintro e w4 ⟨rfl, hb⟩; replace HB := Below.tr HB hb; replace bO := bO.below hb; replace bD := bD.below hb; replace HR : Hid (RowS w4 g cS2 _) := HR.out.below hb; replace O4 : Hid (RowT w4 gT cT (usedL j 11)) := O4.out.below hb; clear hb; obtain ⟨r0, rf0⟩ := HR.out.cell (j := 0) (x := ByteArray.empty) (by rw [List.getElem?_replicate, if_pos (by omega)])))
   replace HR : Hid (RowS (w4.setCell ⟨g, 0, none⟩ (.string s0)) g cS2 ((List.replicate j ByteArray.empty).set 0 s0)) := HR.out.set (by rw [List.length_replicate]; omega) s0
   replace HB := HB.setCell (p := ⟨g, 0, none⟩) (Nat.le_of_lt hog) (.string s0)
   replace bO := bO.off (k := g) (i := 0) (u := .string s0) (Nat.ne_of_lt hog)
   replace bD := bD.off (k := g) (i := 0) (u := .string s0) (Nat.ne_of_lt hdg)
   replace O4 : Hid (RowT _ gT cT (usedL j 11)) := O4.out.setOther (h := g) (i := 0) (v := .string s0) hTS
   clear r0 rf0
   generalize w4.setCell ⟨g, 0, none⟩ (.string s0) = V4 at HB HR bO bD O4 ⊢
   go_wp2
   have hD0 : Below V4.heap.size V4 V4.drew := (Below.refl _ _).drew
   replace HB := Below.tr HB hD0
   replace bO := bO.below hD0
   replace bD := bD.below hD0
   replace HR : Hid (RowS V4.drew g cS2 _) := HR.out.below hD0
   replace O4 : Hid (RowT V4.drew gT cT (usedL j 11)) := O4.out.below hD0
   clear hD0
   go_region_held3 (fun V => V.cell? ⟨w.heap.size + 1, 0, none⟩ = some (.slice (some ⟨g, 0, none⟩) j cS2)) (first | exact bD.1 0 _ rfl | exact (bD.off (Nat.ne_of_lt hdg)).1 0 _ rfl)
    (first
     | (go_at_call 30; refine (cM _ _ _ O4.out.isB).mono ?_; rintro e w5 ⟨rfl, hb⟩; replace HB := Below.tr HB hb; replace bO := bO.below hb; replace bD := bD.below hb; replace HR : Hid (RowS w5 g cS2 _) := HR.out.below hb; replace O4 : Hid (RowT w5 gT cT (usedL j 11)) := O4.out.below hb; clear hb; obtain ⟨r0, rf0⟩ := HR.out.cell (j := 10) (x := ByteArray.empty) (by rw [List.getElem?_set_ne (by decide), List.getElem?_replicate, if_pos (by omega)])))
   replace HR : Hid (RowS (w5.setCell ⟨g, 10, none⟩ (.string s1)) g cS2 OUT) := by show RowS _ _ _ _; rw [hF.out]; exact HR.out.set (by rw [List.length_set, List.length_replicate]; omega) s1
   replace HB := HB.setCell (p := ⟨g, 10, none⟩) (Nat.le_of_lt hog) (.string s1)
   replace bO := bO.off (k := g) (i := 10) (u := .string s1) (Nat.ne_of_lt hog)
   replace bD := bD.off (k := g) (i := 10) (u := .string s1) (Nat.ne_of_lt hdg)
   replace O4 : Hid (RowT _ gT cT (usedL j 11)) := O4.out.setOther (h := g) (i := 10) (v := .string s1) hTS
   clear r0 rf0
   generalize w5.setCell ⟨g, 10, none⟩ (.string s1) = V5 at HB HR bO bD O4 ⊢
   have q0 := bO.1 0 _ rfl
   have q1 := bO.1 1 _ rfl
   have f0 := bO.2 0 (by simp)
   have f1 := bO.2 1 (by simp)
   have p0 := bD.1 0 _ rfl
   have p1 := bD.1 1 _ rfl
   go_wp2
   refine bodyPost_ret (v := .agg #[.slice (some ⟨g, 0, none⟩) j cS2, .slice none 0 0]) (by simp [results, Tryz.results10, go_sem, q0, q1]) rfl ⟨_, _, rfl, ?_, below_set2 HB (Nat.le_refl _)⟩
   exact ((HR.out.setOther (Nat.ne_of_gt hog)).setOther (Nat.ne_of_gt hog)).isS hsm.out
def likeD (bs cs : List ByteArray) (ps qs : List (Int × ByteArray)) : Bool := decide (bs = cs) && decide (ps = qs)
theorem likeD_len {bs cs : List ByteArray} {ps qs : List (Int × ByteArray)} (h : ¬ (bs.length = cs.length ∧ ps.length = qs.length)) : likeD bs cs ps qs = false := by
 rw [Bool.eq_false_iff]
 intro hl
 unfold likeD at hl
 rw [Bool.and_eq_true, decide_eq_true_eq, decide_eq_true_eq] at hl
 exact h ⟨by rw [hl.1], by rw [hl.2]⟩
theorem likeD_at {bs cs : List ByteArray} {ps qs : List (Int × ByteArray)} {j : Nat} (h : ¬ (bs[j]? = cs[j]?)) : likeD bs cs ps qs = false := by
 rw [Bool.eq_false_iff]
 intro hl
 unfold likeD at hl
 rw [Bool.and_eq_true, decide_eq_true_eq, decide_eq_true_eq] at hl
 exact h (by rw [hl.1])
theorem likeD_write {bs cs : List ByteArray} {ps qs : List (Int × ByteArray)} {j : Nat} (h : ¬ (ps[j]? = qs[j]?)) : likeD bs cs ps qs = false := by
 rw [Bool.eq_false_iff]
 intro hl
 unfold likeD at hl
 rw [Bool.and_eq_true, decide_eq_true_eq, decide_eq_true_eq] at hl
 exact h (by rw [hl.2])
theorem take_same {α : Type} {l m : List α} {j : Nat} (h : l.take j = m.take j) (hx : l[j]? = m[j]?) : l.take (j + 1) = m.take (j + 1) := by
 rw [List.take_add_one, List.take_add_one, h, hx]
theorem like_boxes {w wr : World} {v0 v1 u0 u1 : Value} {t : TypeId} (hb : Below ((w.alloc (.cells #[v0, v1] t)).alloc (.cells #[u0, u1] t)).heap.size ((w.alloc (.cells #[v0, v1] t)).alloc (.cells #[u0, u1] t)) wr) :
  (wr.cell? ⟨w.heap.size, 0, none⟩ = some v0 ∧ wr.cell? ⟨w.heap.size, 1, none⟩ = some v1) ∧ wr.cell? ⟨w.heap.size + 1, 0, none⟩ = some u0 ∧ wr.cell? ⟨w.heap.size + 1, 1, none⟩ = some u1 := by
 refine ⟨⟨cell_below hb ?_, cell_below hb ?_⟩, cell_below hb ?_, cell_below hb ?_⟩
 ·
  exact Lib.cell?_alloc_some _ (World.cell?_alloc_at _ _ _ _ rfl)
 ·
  exact Lib.cell?_alloc_some _ (World.cell?_alloc_at _ _ _ _ rfl)
 ·
  exact World.cell?_alloc_at _ _ _ _ (by simp)
 ·
  exact World.cell?_alloc_at _ _ _ _ (by simp)
set_option maxHeartbeats 2000000 in
theorem like_same (a a' b b' : Option Addr) (c c' d d' n m : Nat) (bs cs : List ByteArray) (ps qs : List (Int × ByteArray)) (w : World) (hn : Hid (bs.length = n ∧ cs.length = n)) (hm : Hid (ps.length = m ∧ qs.length = m))
  (hn6 : n ≤ 9223372036854775807) (hm6 : m ≤ 9223372036854775807)
  (hS : IsS w a c bs) (hP : IsP w a' c' ps) (hT : IsS w b d cs) (hQ : IsP w b' d' qs) :
  Calls Tryz.prog 9 #[.agg #[.slice a n c, .slice a' m c'], .agg #[.slice b n d, .slice b' m d']] w fun e w' => e = .returned (.bool (likeD bs cs ps qs)) ∧ Below w.heap.size w w' := by
 obtain ⟨W, hW⟩ : ∃ W, W = ((w.alloc (.cells #[.slice a n c, .slice a' m c'] 25)).alloc (.cells #[.slice b n d, .slice b' m d'] 25)) := ⟨_, rfl⟩
 have hB0 : Below w.heap.size w W := by rw [hW]; exact ((Below.refl _ _).alloc (Nat.le_refl _) _).alloc (by simp) _
 have HS : Hid (IsS _ a c bs) := hS.below hB0
 have HP : Hid (IsP _ a' c' ps) := hP.below hB0
 have HT : Hid (IsS _ b d cs) := hT.below hB0
 have HQ : Hid (IsP _ b' d' qs) := hQ.below hB0
 have HBX : Hid (∀ wr, Below W.heap.size W wr → (wr.cell? ⟨w.heap.size, 0, none⟩ = some (.slice a n c) ∧ wr.cell? ⟨w.heap.size, 1, none⟩ = some (.slice a' m c')) ∧ wr.cell? ⟨w.heap.size + 1, 0, none⟩ = some (.slice b n d) ∧ wr.cell? ⟨w.heap.size + 1, 1, none⟩ = some (.slice b' m d')) := by
  intro wr h
  rw [hW] at h
  exact like_boxes h
 clear hS hP hT hQ
 go_enter Tryz.func9, Tryz.ntmps9
 go_wp2
 rw [← hW]
 go_loopw [26] (fun v wr => ∃ j : Nat, j ≤ n ∧ v = .int .i64 j ∧ bs.take j = cs.take j ∧ Below W.heap.size W wr) (fun v _ => n - (intOf v).toNat)
 case atStart => exact ⟨0, by omega, rfl, rfl, Below.refl _ _⟩
 case round =>
  obtain ⟨j, hj, rfl, HA, hbel⟩ := hrel
  obtain ⟨⟨q0, q1⟩, q2, q3⟩ := HBX.out wr hbel
  by_cases hlt : j < n
  ·
   obtain ⟨x, hx⟩ : ∃ x, bs[j]? = some x := ⟨_, List.getElem?_eq_getElem (by rw [hn.out.1]; exact hlt)⟩
   obtain ⟨y, hy⟩ : ∃ x, cs[j]? = some x := ⟨_, List.getElem?_eq_getElem (by rw [hn.out.2]; exact hlt)⟩
   obtain ⟨b1, o1, rfl, hlb, hc, hxs⟩ := HS.out.2.2 j x hx
   obtain ⟨b2, o2, rfl, hlb2, hc2, hxs2⟩ := HT.out.2.2 j y hy
   replace hc := cell_below hbel hc
   replace hc2 := cell_below hbel hc2
   have hA' : Hid (x = y → bs.take (j + 1) = cs.take (j + 1)) := fun h => take_same HA (by rw [hx, hy, h])
   have hF : Hid (¬ x = y → likeD bs cs ps qs = false) := fun h => likeD_at (j := j) (by rw [hx, hy]; exact fun hh => h (Option.some.inj hh))
   have hBw : Below w.heap.size w wr := Below.tr hB0 hbel
   clear HA hx hy hlb hlb2 HS HT HP HQ hW
   have hlt' : (j : Int) < n := by omega
   by_cases hxy : x = y
   ·
    have hq := str_ne_false hxy
    go_wp2
    go_region
    go_wp2
    go_roundw
    case rel => exact ⟨j + 1, by omega, by go_num, hA'.out hxy, hbel.drew⟩
    case measure => simp [intOf]; omega
   ·
    have hq := str_ne_true hxy
    go_wp2
    go_region
    go_wp2
    go_ret
    exact ⟨ret_bool (hF.out hxy).symm, hBw.drew⟩
  ·
   obtain rfl : j = n := by omega
   have HE : Hid (bs = cs) := by
    show bs = cs
    rw [List.take_of_length_le (by rw [hn.out.1]; exact Nat.le_refl _), List.take_of_length_le (by rw [hn.out.2]; exact Nat.le_refl _)] at HA
    exact HA
   clear HA HS HT
   go_wp2
   go_loopw [44] (fun v wr => ∃ j : Nat, j ≤ m ∧ v = .int .i64 j ∧ ps.take j = qs.take j ∧ Below W.heap.size W wr) (fun v _ => m - (intOf v).toNat)
   case atStart => exact ⟨0, by omega, rfl, rfl, hbel⟩
   case round =>
    clear q0 q1 q2 q3 hbel
    obtain ⟨j, hj, rfl, HA, hbel⟩ := hrel
    obtain ⟨⟨q0, q1⟩, q2, q3⟩ := HBX.out _ hbel
    by_cases hlt : j < m
    ·
     obtain ⟨x, hx⟩ : ∃ x, ps[j]? = some x := ⟨_, List.getElem?_eq_getElem (by rw [hm.out.1]; exact hlt)⟩
     obtain ⟨y, hy⟩ : ∃ x, qs[j]? = some x := ⟨_, List.getElem?_eq_getElem (by rw [hm.out.2]; exact hlt)⟩
     obtain ⟨b1, o1, rfl, hlb, hc, hd, hxs⟩ := HP.out.2.2 j x hx
     obtain ⟨b2, o2, rfl, hlb2, hc2, hd2, hxs2⟩ := HQ.out.2.2 j y hy
     replace hc := cell_below hbel hc
     replace hc2 := cell_below hbel hc2
     replace hd := cell_below hbel hd
     replace hd2 := cell_below hbel hd2
     have hA' : Hid (x = y → ps.take (j + 1) = qs.take (j + 1)) := fun h => take_same HA (by rw [hx, hy, h])
     have hF : Hid (¬ x = y → likeD bs cs ps qs = false) := fun h => likeD_write (j := j) (by rw [hx, hy]; exact fun hh => h (Option.some.inj hh))
     have hBw : Below w.heap.size w _ := Below.tr hB0 hbel
     clear HA hx hy hlb hlb2 HP HQ hW
     have hlt' : (j : Int) < m := by omega
     by_cases hxy : x = y
     ·
      replace hA' : Hid (ps.take (j + 1) = qs.take (j + 1)) := hA'.out hxy
      subst hxy
      clear hF
      go_wp2
      go_region
      go_wp2
      go_roundw
      case rel => exact ⟨j + 1, by omega, by go_num, hA'.out, hbel.drew⟩
      case measure => simp [intOf]; omega
     ·
      replace hF : Hid (likeD bs cs ps qs = false) := hF.out hxy
      by_cases h1 : x.1 = y.1
      ·
       have h2 : ¬ x.2.toList = y.2.toList := by
        intro h
        rw [ByteArray.toList_eq, ByteArray.toList_eq] at h
        exact hxy (Prod.ext h1 (bytes_ext h))
       clear hxy hA'
       go_wp2
       go_region
       go_wp2
       go_ret
       exact ⟨ret_bool hF.out.symm, hBw.drew⟩
      ·
       clear hxy hA'
       go_wp2
       go_region
       go_wp2
       go_ret
       exact ⟨ret_bool hF.out.symm, hBw.drew⟩
    ·
     obtain rfl : j = m := by omega
     have ht : Hid (likeD bs cs ps qs = true) := by
      show _ = _
      rw [List.take_of_length_le (by rw [hm.out.1]; exact Nat.le_refl _), List.take_of_length_le (by rw [hm.out.2]; exact Nat.le_refl _)] at HA
      unfold likeD
      rw [decide_eq_true HE.out, decide_eq_true HA]; rfl
     clear HA
     have hBw : Below w.heap.size w _ := Below.tr hB0 hbel
     go_wp2
     go_ret
     exact ⟨ret_bool ht.out.symm, hBw⟩
set_option maxHeartbeats 1000000 in
theorem like_any (a a' b b' : Option Addr) (c c' d d' : Nat) (bs cs : List ByteArray) (ps qs : List (Int × ByteArray)) (w : World) (hS : IsS w a c bs) (hP : IsP w a' c' ps) (hT : IsS w b d cs) (hQ : IsP w b' d' qs) :
  Calls Tryz.prog 9 #[.agg #[.slice a bs.length c, .slice a' ps.length c'], .agg #[.slice b cs.length d, .slice b' qs.length d']] w fun e w' => e = .returned (.bool (likeD bs cs ps qs)) ∧ Below w.heap.size w w' := by
 have hm : bs.length ≤ 9223372036854775807 := Nat.le_trans hS.1 hS.2.1
 have hm' : ps.length ≤ 9223372036854775807 := Nat.le_trans hP.1 hP.2.1
 have hm2 : cs.length ≤ 9223372036854775807 := Nat.le_trans hT.1 hT.2.1
 have hm2' : qs.length ≤ 9223372036854775807 := Nat.le_trans hQ.1 hQ.2.1
 by_cases hsz : bs.length = cs.length ∧ ps.length = qs.length
 ·
  obtain ⟨h1, h2⟩ := hsz
  have := like_same a a' b b' c c' d d' bs.length ps.length bs cs ps qs w ⟨rfl, h1.symm⟩ ⟨rfl, h2.symm⟩ hm hm' hS hP hT hQ
  rw [← h1, ← h2]
  exact this
 ·
  have hf : Hid (likeD bs cs ps qs = false) := likeD_len hsz
  have hB0 : Below w.heap.size w ((w.alloc (.cells #[.slice a bs.length c, .slice a' ps.length c'] 25)).alloc (.cells #[.slice b cs.length d, .slice b' qs.length d'] 25)) := ((Below.refl _ _).alloc (Nat.le_refl _) _).alloc (by simp) _
  clear hS hP hT hQ
  go_enter Tryz.func9, Tryz.ntmps9
  go_wp2
  all_goals first
   | (go_ret; exact ⟨ret_bool hf.out.symm, hB0⟩)
   | (rename_i h; exact absurd (by simp at h; omega) hsz)
   | sorry
end Go.Proofs.YtaobfgplheoefaaGreat

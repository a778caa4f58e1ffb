/-
  Texts laid together: CheckDo AllocRefNew CheckAlive LookOpen CheckLaw CheckBl GrowRefIn CheckRef CheckRefC.
-/
import Derived.Test.YtpepgpjiddophaaSbC
import Derived.Deep.RegionHeld3
import Derived.Lib.AppendZeros
import Derived.Test.YtpepgpjiddophaaSbA
import Derived.Lib.SmallJoins
import Derived.Maps.RangeWalk
namespace Go.Proofs.Ytpepgpjiddophaa
namespace Plain
theorem check_err {right : Bool} {ns : List Bool} {t : TreeS} {more : List Int} {e : Int} (h : checkE right ns t more = e) (he : e ≠ 0) : checkP right ns t more = 0 ∧ checkH right ns t more = 0 ∧ checkB right ns t more = 0 := by
 unfold checkP checkH checkB
 rw [h, if_neg he, if_neg he, if_neg he]
 exact ⟨rfl, rfl, rfl⟩
theorem check_right {ns : List Bool} {t : TreeS} {more : List Int} : checkE false ns t more = 1 := by unfold checkE; rw [if_neg (by decide)]
theorem check_bad {ns : List Bool} {t : TreeS} {more : List Int} (h : t.bad = true) : checkE true ns t more = 81 := by unfold checkE; rw [if_pos rfl, if_neg (fun hh => by rw [h] at hh; cases hh.1)]
theorem check_not {ns : List Bool} {t : TreeS} {more : List Int} (h : checkOK ns t more = false) : checkE true ns t more = 81 := by unfold checkE; rw [if_pos rfl, if_neg (fun hh => by rw [h] at hh; cases hh.2)]
theorem check_ok {ns : List Bool} {t : TreeS} {more : List Int} (h0 : t.bad = false) (h : checkOK ns t more = true) : checkE true ns t more = 0 := by unfold checkE; rw [if_pos rfl, if_pos ⟨h0, h⟩]
end Plain
open Go.RowKit Plain
set_option linter.unusedVariables false
set_option maxRecDepth 20000 in
set_option maxHeartbeats 4000000 in
theorem check_any (a a' b : Option Addr) (n c n' c' p f : Nat) (bs ns : List Bool) (ps : List ByteArray) (root gen : Int) (am : Option Addr) (cm nm : Nat) (ms : List Int) (w : World) (hn : n = bs.length) (hn' : n' = ns.length) (hp : p = ps.length) (hm : nm = ms.length) (hB : IsB w a c bs) (hB' : IsB w a' c' ns) (hP : IsS w b f ps) (hI : IsI w am cm ms) :
  Calls Try.prog 9 #[.agg #[.slice a n c, .slice a' n' c', .slice b p f, .int .i64 root, .int .i64 gen], .slice am nm cm] w fun x w' => x = .returned (.tuple #[.agg #[.int .i64 (checkP (rightW bs ns ps root gen) ns (treeS ns ps root gen) ms), .int .i64 (checkH (rightW bs ns ps root gen) ns (treeS ns ps root gen) ms), .int .i64 (checkB (rightW bs ns ps root gen) ns (treeS ns ps root gen) ms)], .int .i64 (checkE (rightW bs ns ps root gen) ns (treeS ns ps root gen) ms)]) ∧ Below w.heap.size w w' := by
 obtain ⟨W, hW⟩ : ∃ W, W = (w.alloc (.cells #[.slice a n c, .slice a' n' c', .slice b p f, .int .i64 root, .int .i64 gen] 27)).alloc (.cells #[.int .i64 0, .int .i64 0, .int .i64 0] 35) := ⟨_, rfl⟩
 have HB : Below w.heap.size w W := by rw [hW]; exact ((Below.refl _ _).alloc (Nat.le_refl _) _).alloc (by simp) _
 have BW : WoodBox W w.heap.size (.slice a n c) (.slice a' n' c') (.slice b p f) (.int .i64 root) (.int .i64 gen) := by rw [hW]; exact (woodBox_new _ _ _ _ _ _ _ rfl).below ((Below.refl _ _).alloc (Nat.le_refl _) _)
 have BR : Box3 W (w.heap.size + 1) (.int .i64 0) (.int .i64 0) (.int .i64 0) := by rw [hW]; have := box3_new (w.alloc (.cells #[.slice a n c, .slice a' n' c', .slice b p f, .int .i64 root, .int .i64 gen] 27)) (.int .i64 0) (.int .i64 0) (.int .i64 0) 35; simpa using this
 have hWs : W.heap.size = w.heap.size + 2 := by rw [hW]; simp
 obtain ⟨t, ht⟩ : ∃ t, t = treeS ns ps root gen := ⟨_, rfl⟩
 obtain ⟨x0, x1, x2, x3, x4⟩ := id (hW ▸ BW)
 obtain ⟨⟨r0, r1, r2⟩, f0, f1, f2⟩ := id (hW ▸ BR)
 rw [← ht]
 cases hr : rightW bs ns ps root gen with
 | false =>
  have cC := climbed_no a a' b n c n' c' p f bs ns ps root gen W hn hn' hp (hB.below HB) (hB'.below HB) (hP.below HB) hr
  obtain ⟨rE, hE⟩ : ∃ x, x = checkE false ns t ms := ⟨_, rfl⟩
  obtain ⟨rP, hP'⟩ : ∃ x, x = checkP false ns t ms := ⟨_, rfl⟩
  obtain ⟨rH, hH⟩ : ∃ x, x = checkH false ns t ms := ⟨_, rfl⟩
  obtain ⟨rB, hBB⟩ : ∃ x, x = checkB false ns t ms := ⟨_, rfl⟩
  rw [← hE, ← hP', ← hH, ← hBB]
  have hz := check_err (check_right (ns := ns) (t := t) (more := ms)) (by decide)
  have HF : Hid (rP = 0 ∧ rH = 0 ∧ rB = 0 ∧ rE = 1) := ⟨hP'.trans hz.1, hH.trans hz.2.1, hBB.trans hz.2.2, hE.trans check_right⟩
  clear hn hn' hp hB hB' hP hm hI hr ht hE hP' hH hBB hz
  go_enter Try.func9, Try.ntmps9
  go_wp2_with (go_at_call 13; rw [← hW]; refine cC.mono ?_; rintro y w1 ⟨rfl, hb⟩; replace HB := Below.tr HB hb; replace BR := BR.below hb; clear x0 x1 x2 x3 x4 r0 r1 r2 f0 f1 f2; obtain ⟨⟨r0, r1, r2⟩, f0, f1, f2⟩ := id BR)
  obtain ⟨z0, z1, z2⟩ := set3_cells (v0 := .int .i64 0) (v1 := .int .i64 0) (v2 := .int .i64 0) r0 r1 r2
  refine bodyPost_ret (v := .tuple #[.agg #[.int .i64 0, .int .i64 0, .int .i64 0], .int .i64 1]) (by simp [results, Try.results9, go_sem, z0, z1, z2]) rfl ?_
  rw [HF.out.1, HF.out.2.1, HF.out.2.2.1, HF.out.2.2.2]
  exact ⟨rfl, below_set3 HB (by omega)⟩
 | true =>
  have cC := climbed_yes a a' b n c n' c' p f bs ns ps root gen W hn hn' hp (hB.below HB) (hB'.below HB) (hP.below HB) hr
  obtain ⟨t1, t2⟩ := climbed_tree ns ps root gen
  rw [← ht] at t1 t2
  obtain ⟨-, h24, h2048, -⟩ := (rightA_iff bs ns).1 (rightW_now hr)
  have hck := fun (held : List Bool) (hh : HeldBy ns.length held t.blocks) => check_held (ns := ns) (t := t) (more := ms) (by omega) hh
  obtain ⟨⟨e, s⟩, hes⟩ : ∃ x, x = climbedS ns ps root gen := ⟨_, rfl⟩
  rw [← hes] at cC t1 t2
  obtain ⟨rE, hE⟩ : ∃ x, x = checkE true ns t ms := ⟨_, rfl⟩
  obtain ⟨rP, hP'⟩ : ∃ x, x = checkP true ns t ms := ⟨_, rfl⟩
  obtain ⟨rH, hH⟩ : ∃ x, x = checkH true ns t ms := ⟨_, rfl⟩
  obtain ⟨rB, hBB⟩ : ∃ x, x = checkB true ns t ms := ⟨_, rfl⟩
  rw [← hE, ← hP', ← hH, ← hBB]
  have hbad : checkE true ns t ms = 81 → Hid (rP = 0 ∧ rH = 0 ∧ rB = 0 ∧ rE = 81) := fun h81 => by
   have hz := check_err h81 (by decide)
   exact ⟨hP'.trans hz.1, hH.trans hz.2.1, hBB.trans hz.2.2, hE.trans h81⟩
  have mn : n' ≤ 2048 := by omega
  cases hb : t.bad with
  | true =>
   have HF := hbad (check_bad hb)
   obtain rfl : e = 81 := t2 hb
   clear hn hn' hp hB hB' hP hm hI hr ht hE hP' hH hBB t1 t2 hck hbad hes h24 h2048 hb
   go_enter Try.func9, Try.ntmps9
   go_wp2_with (
    (go_at_call 13; rw [← hW]; refine cC.mono ?_; rintro y w1 ⟨h, g, rfl, D, hh, hg, hb⟩; replace HB := Below.tr HB hb; replace BR := BR.below hb; replace BW := BW.below hb; clear x0 x1 x2 x3 x4 r0 r1 r2 f0 f1 f2; obtain ⟨x0, x1, x2, x3, x4⟩ := id BW; obtain ⟨⟨r0, r1, r2⟩, f0, f1, f2⟩ := id BR))
   obtain ⟨z0, z1, z2⟩ := set3_cells (v0 := .int .i64 0) (v1 := .int .i64 0) (v2 := .int .i64 0) r0 r1 r2
   refine bodyPost_ret (v := .tuple #[.agg #[.int .i64 0, .int .i64 0, .int .i64 0], .int .i64 81]) (by simp [results, Try.results9, go_sem, z0, z1, z2]) rfl ?_
   rw [HF.out.1, HF.out.2.1, HF.out.2.2.1, HF.out.2.2.2]
   exact ⟨rfl, below_set3 HB (by omega)⟩
  | false =>
   obtain ⟨e0, hA⟩ := t1 hb
   replace e0 : e = 0 := e0
   subst e0
   replace hA : Agree ns.length s t := hA
   have hck2 := hck _ hA.held
   have cH : ∀ (V : World) (h g : Nat), Below w.heap.size w V → w.heap.size ≤ g → ClimbAt V h g n' (.slice a n c) (.slice a' n' c') (.slice b p f) (.int .i64 root) (.int .i64 gen) s → Calls Try.prog 16 #[.pointer (some ⟨h, 0, none⟩), .slice am nm cm] V fun e V' => e = .returned (.bool (holdL s.held ms).1) ∧ ClimbAt V' h g n' (.slice a n c) (.slice a' n' c') (.slice b p f) (.int .i64 root) (.int .i64 gen) ⟨(holdL s.held ms).2, s.pairs, s.height, s.blocks⟩ ∧ Turns (fun k => k = g) V V' := fun V h g hV hg hD =>
    hold_any V h g n' _ _ _ _ _ s am cm nm ms hm (hI.below hV) (fun hne x hx e => by
     cases ms with
     | nil => exact hne rfl
     | cons m0 ms0 =>
      obtain ⟨b0, o0, ha0, hlt0, _⟩ := hI.2.2 0 m0 rfl
      rw [ha0] at hx
      cases hx
      have e' : b0 = g := e
      omega) hD (by omega)
   have cQ : ∀ (V : World) (h g : Nat) (l : List Bool), Below w.heap.size w V → ClimbAt V h g n' (.slice a n c) (.slice a' n' c') (.slice b p f) (.int .i64 root) (.int .i64 gen) ⟨l, s.pairs, s.height, s.blocks⟩ → Calls Try.prog 17 #[.slice (some ⟨g, 0, none⟩) n' n', .slice a' n' c'] V fun e V' => e = .returned (.bool (decide (l = ns))) ∧ Below V.heap.size V V' := fun V h g l hV hD =>
    equalB_any (some ⟨g, 0, none⟩) a' n' c' n' n' l ns V hD.len.symm hn' hD.row.isB (hB'.below hV)
   obtain ⟨⟨q, l2⟩, hql⟩ : ∃ x, x = holdL s.held ms := ⟨_, rfl⟩
   rw [← hql] at hck2 cH
   have hpos : checkOK ns t ms = true → Hid (rP = (s.pairs : Int) ∧ rH = s.height ∧ rB = (s.blocks : Int) ∧ rE = 0) := fun hok => by
    have h0 := check_ok hb hok
    refine ⟨hP'.trans ?_, hH.trans ?_, hBB.trans ?_, hE.trans h0⟩
    ·
     unfold checkP; rw [h0, if_pos rfl, hA.pairs]
    ·
     unfold checkH; rw [h0, if_pos rfl, hA.height]
    ·
     unfold checkB; rw [h0, if_pos rfl, hA.blocks]
   replace hck2 : checkOK ns t ms = (q && decide (l2 = ns)) := hck2
   have hcond : checkOK ns t ms = false → Hid (rP = 0 ∧ rH = 0 ∧ rB = 0 ∧ rE = 81) := fun hno => hbad (check_not hno)
   clear hn hn' hp hB hB' hP hm hI hr ht hE hP' hH hBB t1 t2 hck hbad hes h24 h2048 hb hA hql
   cases q with
   | false =>
    have HF := hcond (by rw [hck2]; rfl)
    clear hck2 hpos hcond cQ
    go_enter Try.func9, Try.ntmps9
    go_wp2_with (
     (go_at_call 13; rw [← hW]; refine cC.mono ?_; rintro y w1 ⟨h, g, rfl, D, hh, hg, hb⟩; replace HB := Below.tr HB hb; replace BR := BR.below hb; replace BW := BW.below hb; clear x0 x1 x2 x3 x4 r0 r1 r2 f0 f1 f2; obtain ⟨x0, x1, x2, x3, x4⟩ := id BW; obtain ⟨⟨r0, r1, r2⟩, f0, f1, f2⟩ := id BR))
    have hD0 : Below w1.heap.size w1 w1.drew := (Below.refl _ _).drew
    replace D := D.below hD0
    replace HB := Below.tr HB hD0
    replace BR := BR.below hD0
    refine wp_region_noPanic ?_
    refine wp_region_held_drew (S := fun X => True) (by kernel_rfl) trivial (fun hHeld => ?_)
    refine take_at (i := 0) (v := ?_) rfl (by kernel_rfl) (by kernel_rfl) (by kernel_rfl) (fun _ _ _ h => h) (Or.inl ⟨by rfl, ?_⟩) (by assumption) ?_
    rotate_left 1
    ·
     (intro w hSw; (try dsimp only at hSw); go_simp; (try with_reducible rfl))
    try go_frame
    refine take_at (i := 1) (v := ?_) rfl (by kernel_rfl) (by kernel_rfl) (by kernel_rfl) (fun _ _ _ h => h) (Or.inl ⟨by rfl, ?_⟩) (by assumption) ?_
    rotate_left 1
    ·
     (intro w hSw; (try dsimp only at hSw); go_simp; (try with_reducible rfl))
    try go_frame
    refine wpAnyH_ready (rs := [2]) (by kernel_rfl) (by simp) ?_
    refine cons_at (i := 2) rfl (fun K hK => ?_) AllReadyH.nil
    go_simp
    go_at_call 16
    refine (cH _ h g HB (by omega) D).mono ?_
    rintro y w2 ⟨rfl, D2, T2⟩
    replace BR := BR.turns T2 (by omega)
    replace HB := Below.turns HB T2 (fun i hi => by omega)
    clear r0 r1 r2 f0 f1 f2
    obtain ⟨⟨r0, r1, r2⟩, f0, f1, f2⟩ := id BR
    refine hK.out _ _ ?_ (fun hHeld2 => ?_)
    ·
     exact trivial
    clear hK K
    refine take_at (i := 3) (v := ?_) rfl (by kernel_rfl) (by kernel_rfl) (by kernel_rfl) (fun _ _ _ h => h) (Or.inl ⟨by rfl, ?_⟩) (by assumption) ?_
    rotate_left 1
    ·
     (intro w hSw; (try dsimp only at hSw); go_simp; (try with_reducible rfl))
    try go_frame
    refine take_at (i := 4) (v := ?_) rfl (by kernel_rfl) (by kernel_rfl) (by kernel_rfl) (fun _ _ _ h => h) (Or.inl ⟨by rfl, ?_⟩) (by assumption) ?_
    rotate_left 1
    ·
     (intro w hSw; (try dsimp only at hSw); go_simp; (try with_reducible rfl))
    try go_frame
    refine take_at (i := 5) (v := undef) rfl (by kernel_rfl) (by kernel_rfl) (by kernel_rfl) (fun _ _ _ h => h) (Or.inr ⟨by rfl, rfl⟩) (by assumption) ?_
    try go_frame
    refine take_at (i := 6) (v := undef) rfl (by kernel_rfl) (by kernel_rfl) (by kernel_rfl) (fun _ _ _ h => h) (Or.inr ⟨by rfl, rfl⟩) (by assumption) ?_
    try go_frame
    refine take_at (i := 7) (v := undef) rfl (by kernel_rfl) (by kernel_rfl) (by kernel_rfl) (fun _ _ _ h => h) (Or.inr ⟨by rfl, rfl⟩) (by assumption) ?_
    try go_frame
    refine take_at (i := 8) (v := undef) rfl (by kernel_rfl) (by kernel_rfl) (by kernel_rfl) (fun _ _ _ h => h) (Or.inr ⟨by rfl, rfl⟩) (by assumption) ?_
    try go_frame
    refine take_at (i := 9) (v := undef) rfl (by kernel_rfl) (by kernel_rfl) (by kernel_rfl) (fun _ _ _ h => h) (Or.inr ⟨by rfl, rfl⟩) (by assumption) ?_
    try go_frame
    refine take_at (i := 10) (v := undef) rfl (by kernel_rfl) (by kernel_rfl) (by kernel_rfl) (fun _ _ _ h => h) (Or.inr ⟨by rfl, rfl⟩) (by assumption) ?_
    try go_frame
    refine take_at (i := 11) (v := undef) rfl (by kernel_rfl) (by kernel_rfl) (by kernel_rfl) (fun _ _ _ h => h) (Or.inr ⟨by rfl, rfl⟩) (by assumption) ?_
    try go_frame
    refine take_at (i := 12) (v := undef) rfl (by kernel_rfl) (by kernel_rfl) (by kernel_rfl) (fun _ _ _ h => h) (Or.inr ⟨by rfl, rfl⟩) (by assumption) ?_
    try go_frame
    refine take_at (i := 13) (v := undef) rfl (by kernel_rfl) (by kernel_rfl) (by kernel_rfl) (fun _ _ _ h => h) (Or.inr ⟨by rfl, rfl⟩) (by assumption) ?_
    try go_frame
    refine take_at (i := 14) (v := undef) rfl (by kernel_rfl) (by kernel_rfl) (by kernel_rfl) (fun _ _ _ h => h) (Or.inr ⟨by rfl, rfl⟩) (by assumption) ?_
    try go_frame
    refine take_at (i := 15) (v := undef) rfl (by kernel_rfl) (by kernel_rfl) (by kernel_rfl) (fun _ _ _ h => h) (Or.inr ⟨by rfl, rfl⟩) (by assumption) ?_
    try go_frame
    refine take_at (i := 16) (v := undef) rfl (by kernel_rfl) (by kernel_rfl) (by kernel_rfl) (fun _ _ _ h => h) (Or.inr ⟨by rfl, rfl⟩) (by assumption) ?_
    try go_frame
    refine take_at (i := 17) (v := ?_) rfl (by kernel_rfl) (by kernel_rfl) (by kernel_rfl) (fun _ _ _ h => h) (Or.inl ⟨by rfl, ?_⟩) (by assumption) ?_
    rotate_left 1
    ·
     (intro w hSw; (try dsimp only at hSw); go_simp; (try with_reducible rfl))
    try go_frame
    refine wpAnyH_done (by kernel_rfl) ?_ _
    refine NoPanic.normal ?_
    go_wp2
    obtain ⟨z0, z1, z2⟩ := set3_cells (v0 := .int .i64 0) (v1 := .int .i64 0) (v2 := .int .i64 0) r0 r1 r2
    refine bodyPost_ret (v := .tuple #[.agg #[.int .i64 0, .int .i64 0, .int .i64 0], .int .i64 81]) (by simp [results, Try.results9, go_sem, z0, z1, z2]) rfl ?_
    rw [HF.out.1, HF.out.2.1, HF.out.2.2.1, HF.out.2.2.2]
    exact ⟨rfl, below_set3 HB (by omega)⟩
   | true =>
    by_cases hq : l2 = ns
    ·
     have HF := hpos (by rw [hck2, decide_eq_true hq]; rfl)
     have cQ2 := fun V h g hV hD => cQ V h g l2 hV hD
     rw [decide_eq_true hq] at cQ2
     clear hck2 hpos hcond hq cQ
     go_enter Try.func9, Try.ntmps9
     go_wp2_with (
      (go_at_call 13; rw [← hW]; refine cC.mono ?_; rintro y w1 ⟨h, g, rfl, D, hh, hg, hb⟩; replace HB := Below.tr HB hb; replace BR := BR.below hb; replace BW := BW.below hb; clear x0 x1 x2 x3 x4 r0 r1 r2 f0 f1 f2; obtain ⟨x0, x1, x2, x3, x4⟩ := id BW; obtain ⟨⟨r0, r1, r2⟩, f0, f1, f2⟩ := id BR))
     have hD0 : Below w1.heap.size w1 w1.drew := (Below.refl _ _).drew
     replace D := D.below hD0
     replace HB := Below.tr HB hD0
     replace BR := BR.below hD0
     go_region_held3 (fun X => X.cell? ⟨h, 8, none⟩ = some (.slice (some ⟨g, 0, none⟩) n' n') ∧ X.cell? ⟨h, 1, none⟩ = some (.slice a' n' c')) (exact ⟨D.c8, D.wb.2.1⟩)
      (first
       | (go_at_call 16; refine (cH _ h g HB (by omega) D).mono ?_; rintro y w2 ⟨rfl, D2, T2⟩; replace BR := BR.turns T2 (by omega); replace HB := Below.turns HB T2 (fun i hi => (by omega)); replace D := D2; clear D2 T2)
       | (go_at_call 17; refine (cQ2 _ h g HB D).mono ?_; rintro y w3 ⟨rfl, hb3⟩; replace BR := BR.below hb3; replace HB := Below.tr HB hb3; replace D := D.below hb3; clear hb3))
     clear r0 r1 r2 f0 f1 f2
     obtain ⟨⟨r0, r1, r2⟩, f0, f1, f2⟩ := id BR
     have q5 := D.c5
     have q6 := D.c6
     have q7 := D.c7
     go_wp2
     obtain ⟨z0, z1, z2⟩ := set3_cells (v0 := .int .i64 s.pairs) (v1 := .int .i64 s.height) (v2 := .int .i64 s.blocks) r0 r1 r2
     refine bodyPost_ret (v := .tuple #[.agg #[.int .i64 s.pairs, .int .i64 s.height, .int .i64 s.blocks], .int .i64 0]) (by simp [results, Try.results9, go_sem, z0, z1, z2]) rfl ?_
     rw [HF.out.1, HF.out.2.1, HF.out.2.2.1, HF.out.2.2.2]
     exact ⟨rfl, below_set3 HB (by omega)⟩
    ·
     have HF := hcond (by rw [hck2, decide_eq_false hq]; rfl)
     have cQ2 := fun V h g hV hD => cQ V h g l2 hV hD
     rw [decide_eq_false hq] at cQ2
     clear hck2 hpos hcond hq cQ
     go_enter Try.func9, Try.ntmps9
     go_wp2_with (
      (go_at_call 13; rw [← hW]; refine cC.mono ?_; rintro y w1 ⟨h, g, rfl, D, hh, hg, hb⟩; replace HB := Below.tr HB hb; replace BR := BR.below hb; replace BW := BW.below hb; clear x0 x1 x2 x3 x4 r0 r1 r2 f0 f1 f2; obtain ⟨x0, x1, x2, x3, x4⟩ := id BW; obtain ⟨⟨r0, r1, r2⟩, f0, f1, f2⟩ := id BR))
     have hD0 : Below w1.heap.size w1 w1.drew := (Below.refl _ _).drew
     replace D := D.below hD0
     replace HB := Below.tr HB hD0
     replace BR := BR.below hD0
     go_region_held3 (fun X => X.cell? ⟨h, 8, none⟩ = some (.slice (some ⟨g, 0, none⟩) n' n') ∧ X.cell? ⟨h, 1, none⟩ = some (.slice a' n' c')) (exact ⟨D.c8, D.wb.2.1⟩)
      (first
       | (go_at_call 16; refine (cH _ h g HB (by omega) D).mono ?_; rintro y w2 ⟨rfl, D2, T2⟩; replace BR := BR.turns T2 (by omega); replace HB := Below.turns HB T2 (fun i hi => (by omega)); replace D := D2; clear D2 T2)
       | (go_at_call 17; refine (cQ2 _ h g HB D).mono ?_; rintro y w3 ⟨rfl, hb3⟩; replace BR := BR.below hb3; replace HB := Below.tr HB hb3; replace D := D.below hb3; clear hb3))
     clear r0 r1 r2 f0 f1 f2
     obtain ⟨⟨r0, r1, r2⟩, f0, f1, f2⟩ := id BR
     have q5 := D.c5
     have q6 := D.c6
     have q7 := D.c7
     go_wp2
     obtain ⟨z0, z1, z2⟩ := set3_cells (v0 := .int .i64 0) (v1 := .int .i64 0) (v2 := .int .i64 0) r0 r1 r2
     refine bodyPost_ret (v := .tuple #[.agg #[.int .i64 0, .int .i64 0, .int .i64 0], .int .i64 81]) (by simp [results, Try.results9, go_sem, z0, z1, z2]) rfl ?_
     rw [HF.out.1, HF.out.2.1, HF.out.2.2.1, HF.out.2.2.2]
     exact ⟨rfl, below_set3 HB (by omega)⟩
end Go.Proofs.Ytpepgpjiddophaa
namespace Go.Proofs.Ytpepgpjiddophaa
open Go.RowKit Plain
set_option linter.unusedVariables false
theorem push_T (W : World) (base : Nat) (v : Value) (n : Nat) (l : List Bool) (x : Bool) (hown : W.ownsRow base 4 1 v n (l.map Value.bool)) (hb : base ≤ W.heap.size) (hn : n ≤ 4096) :
  ∃ g cap w', (Builtin.append_ #[22, 22] 22 #[v, .slice (some ⟨W.heap.size, 0, none⟩) 1 1]).run Try.prog (W.alloc (.cells #[.bool x] 4)) = .ok (.slice (some ⟨g, 0, none⟩) (n + 1) cap) w' ∧
   w'.ownsRow base 4 1 (.slice (some ⟨g, 0, none⟩) (n + 1) cap) (n + 1) ((l ++ [x]).map Value.bool) ∧ (W.alloc (.cells #[.bool x] 4)).grownBy w' v.ownBlock ∧ (v.ownBlock = some g ∨ g = W.heap.size + 1) ∧ base ≤ g := by
 obtain ⟨i0, hi, hz0, hz1, hz2⟩ := info_parts Try.info4
 obtain ⟨g, cap, w', h1, h2, h3, h4, h5⟩ := run_append_lies (P := Try.prog) (W.alloc (.cells #[.bool x] 4)) 22 22 base 4 i0 _ 1 1 Try.underlying22 hi hz0 hz1 hz2 rfl (by decide) v n (l.map Value.bool) (hown.alloc _) ⟨W.heap.size, 0, none⟩ 1 1 [.bool x] rfl
  (by
   intro j u hj
   match j, hj with
   | 0, hj => simp at hj; subst hj; rw [at_add]; exact World.cell?_alloc_at _ _ _ _ rfl)
  (by intro u hu; simp at hu; subst hu; rfl) (by omega) (by unfold maxLen; omega) (by omega) (by simp; omega) (W.heap.size + 1) (by simp)
 refine ⟨g, cap, w', h1, by rw [List.map_append]; exact h2, h3, h4, ?_⟩
 obtain ⟨g', cap', he, hb', _⟩ := h2.form (by omega)
 cases he
 exact hb'
theorem own_span {w : World} {base : Nat} {e : TypeId} {s n : Nat} {v : Value} {xs : List Value} (h : w.ownsRow base e s v n xs) {g : Nat} (hg : v.ownBlock = some g) : base ≤ g ∧ g < w.heap.size := h.lt g hg
theorem Box2.grown {w w' : World} {row : Option Nat} {h : Nat} {v0 v1 : Value} (b : Box2 w h v0 v1) (hg : w.grownBy w' row) (hr : ∀ k, row = some k → h < k) : Box2 w' h v0 v1 := by
 have hl := b.lt
 have hb : w'.heap[h]? = w.heap[h]? := hg.block h hl (fun he => by have := hr h he.symm; omega)
 obtain ⟨⟨c0, c1⟩, f0, f1⟩ := b
 exact ⟨⟨by rw [World.cell?_of_block (w := w) hb]; exact c0, by rw [World.cell?_of_block (w := w) hb]; exact c1⟩, by rw [World.frozen?_of_block (w := w) hb]; exact f0, by rw [World.frozen?_of_block (w := w) hb]; exact f1⟩
theorem Box2.set0 {w : World} {h : Nat} {v0 v1 : Value} (b : Box2 w h v0 v1) (u : Value) : Box2 (w.setCell ⟨h, 0, none⟩ u) h u v1 := by
 obtain ⟨⟨c0, c1⟩, f0, f1⟩ := b
 refine ⟨⟨World.cell?_setCell_same _ _ _ c0, ?_⟩, by simpa using f0, by simpa using f1⟩
 rw [World.cell?_setCell_other _ _ _ _ (fun hh => by cases hh)]; exact c1
theorem Box2.set1 {w : World} {h : Nat} {v0 v1 : Value} (b : Box2 w h v0 v1) (u : Value) : Box2 (w.setCell ⟨h, 1, none⟩ u) h v0 u := by
 obtain ⟨⟨c0, c1⟩, f0, f1⟩ := b
 refine ⟨⟨?_, World.cell?_setCell_same _ _ _ c1⟩, by simpa using f0, by simpa using f1⟩
 rw [World.cell?_setCell_other _ _ _ _ (fun hh => by cases hh)]; exact c0
theorem own_below {w : World} {B : Nat} {e : TypeId} {n h i m : Nat} {v : Value} {xs : List Value} {u : Value} (hr : w.ownsRow B e m v n xs) (hh : h < B) : (w.setCell ⟨h, i, none⟩ u).ownsRow B e m v n xs :=
 ownsRow_setCell_below hr (a := ⟨h, i, none⟩) hh u
theorem ownT_of {w : World} {base : Nat} {v : Value} {n : Nat} {l : List Bool} (hl : l.length = n) (h : w.ownsRow base 4 1 v n (l.map Value.bool)) : ∃ a c, v = .slice a n c ∧ OwnT base w a c l := by
 subst hl
 rcases ownsRow_T h with ⟨rfl, rfl⟩ | ⟨g, cap, rfl, hg, hr⟩
 ·
  exact ⟨none, 0, rfl, OwnT_nil _ _⟩
 ·
  exact ⟨_, _, rfl, .inr ⟨g, rfl, hg, hr⟩⟩
set_option maxRecDepth 20000 in
set_option maxHeartbeats 4000000 in
theorem allocRefNewF_any (n : Nat) (w : World) (hn : n ≤ 2048) :
  Calls Try.prog 12 #[.int .i64 n] w fun e w' => ∃ a1 c1 a2 c2, e = .returned (.agg #[.slice a1 n c1, .slice a2 n c2]) ∧ OwnT w.heap.size w' a1 c1 (freshL n) ∧ OwnT w.heap.size w' a2 c2 (freshL n) ∧ Below w.heap.size w w' := by
 obtain ⟨W, hW⟩ : ∃ W, W = (w.alloc (.cells #[.slice none 0 0, .slice none 0 0] 24)).alloc (.cells #[.slice none 0 0, .slice none 0 0] 24) := ⟨_, rfl⟩
 obtain ⟨hB0, hWs, bo, bi⟩ := two_box2 hW
 go_enter Try.func12, Try.ntmps12
 go_wp2
 rw [← hW]
 go_loopw [4] (fun v wr => ∃ (j : Nat) (v0 v1 : Value), j ≤ n ∧ v = .int .i64 j ∧ Box2 wr w.heap.size (.slice none 0 0) (.slice none 0 0) ∧ Box2 wr (w.heap.size + 1) v0 v1 ∧ wr.ownsRow (w.heap.size + 2) 4 1 v0 j ((freshL j).map Value.bool) ∧ wr.ownsRow (w.heap.size + 2) 4 1 v1 j ((freshL j).map Value.bool) ∧ (∀ g, v0.ownBlock = some g → v1.ownBlock ≠ some g) ∧ Below w.heap.size w wr ∧ w.heap.size + 2 ≤ wr.heap.size) (fun v _ => n - (intOf v).toNat)
 case atStart =>
  refine ⟨0, .slice none 0 0, .slice none 0 0, by omega, rfl, bo, bi, ⟨rfl, .inl ⟨rfl, rfl⟩⟩, ⟨rfl, .inl ⟨rfl, rfl⟩⟩, fun g hg => (by simp [Value.ownBlock] at hg), hB0, by omega⟩
 case round =>
  obtain ⟨j, v0, v1, hj, rfl, box, bix, hr0, hr1, hap, hbel, hsz⟩ := hrel
  by_cases hlt : j < n
  ·
   have hlt' : (j : Int) < n := by omega
   obtain ⟨x, hx⟩ : ∃ x, x = decide ((j : Int) < 10) := ⟨_, rfl⟩
   have hnx : freshL (j + 1) = freshL j ++ [x] := by rw [freshL_succ, hx]; congr 2; rw [decide_eq_decide]; omega
   obtain ⟨g0, cap0, w1, run0, own0, gr0, at0, ge0⟩ := push_T wr (w.heap.size + 2) v0 j (freshL j) x hr0 hsz (by omega)
   have hrow0 : ∀ k, v0.ownBlock = some k → w.heap.size + 1 < k := fun k hk => by have := (own_span hr0 hk).1; omega
   have box1 : Box2 w1 w.heap.size (.slice none 0 0) (.slice none 0 0) := (box.alloc _).grown gr0 (fun k hk => by have := hrow0 k hk; omega)
   have bix1 : Box2 w1 (w.heap.size + 1) v0 v1 := (bix.alloc _).grown gr0 hrow0
   have hr1' : w1.ownsRow (w.heap.size + 2) 4 1 v1 j ((freshL j).map Value.bool) := (hr1.alloc _).kept gr0 (by
    cases h : v1.ownBlock with
    | none => exact .inl rfl
    | some k => exact .inr (fun he => hap k he.symm h))
   have hap1 : ∀ k, v1.ownBlock = some k → k ≠ g0 := by
    intro k hk he
    subst he
    rcases at0 with h | h
    ·
     exact hap k h hk
    ·
     have := (own_span hr1 hk).2; omega
   have hb1 : Below w.heap.size w w1 := (hbel.alloc (by omega) _).grown gr0 (by simp; omega) (fun k hk => by have := hrow0 k hk; omega)
   have hsz1 : w.heap.size + 2 ≤ w1.heap.size := by have := (own_span own0 rfl).2; have := gr0.size; simp at this; omega
   obtain ⟨W2, hW2⟩ : ∃ W2, W2 = w1.setCell ⟨w.heap.size + 1, 0, none⟩ (.slice (some ⟨g0, 0, none⟩) (j + 1) cap0) := ⟨_, rfl⟩
   have own0' : W2.ownsRow (w.heap.size + 2) 4 1 (.slice (some ⟨g0, 0, none⟩) (j + 1) cap0) (j + 1) ((freshL j ++ [x]).map Value.bool) := by rw [hW2]; exact own_below own0 (by omega)
   have hr1'' : W2.ownsRow (w.heap.size + 2) 4 1 v1 j ((freshL j).map Value.bool) := by rw [hW2]; exact own_below hr1' (by omega)
   have box2 : Box2 W2 w.heap.size (.slice none 0 0) (.slice none 0 0) := by
    rw [hW2]
    refine ⟨⟨?_, ?_⟩, by simpa using box1.2.1, by simpa using box1.2.2⟩
    ·
     rw [World.cell?_setCell_other _ _ _ _ (fun hh => absurd (congrArg Addr.block hh) (by simp))]; exact box1.1.1
    ·
     rw [World.cell?_setCell_other _ _ _ _ (fun hh => absurd (congrArg Addr.block hh) (by simp))]; exact box1.1.2
   have bix2 : Box2 W2 (w.heap.size + 1) (.slice (some ⟨g0, 0, none⟩) (j + 1) cap0) v1 := by rw [hW2]; exact bix1.set0 _
   have hb2 : Below w.heap.size w W2 := by rw [hW2]; exact hb1.setCell (p := ⟨w.heap.size + 1, 0, none⟩) (Nat.le_succ _) _
   have hsz2 : w.heap.size + 2 ≤ W2.heap.size := by rw [hW2]; simpa using hsz1
   have g0lt : g0 < W2.heap.size := (own_span own0' rfl).2
   obtain ⟨g1, cap1, w3, run1, own1, gr1, at1, ge1⟩ := push_T W2 (w.heap.size + 2) v1 j (freshL j) x hr1'' hsz2 (by omega)
   have hrow1 : ∀ k, v1.ownBlock = some k → w.heap.size + 1 < k := fun k hk => by have := (own_span hr1'' hk).1; omega
   have box3 : Box2 w3 w.heap.size (.slice none 0 0) (.slice none 0 0) := (box2.alloc _).grown gr1 (fun k hk => by have := hrow1 k hk; omega)
   have bix3 : Box2 w3 (w.heap.size + 1) (.slice (some ⟨g0, 0, none⟩) (j + 1) cap0) v1 := (bix2.alloc _).grown gr1 hrow1
   have own0'' : w3.ownsRow (w.heap.size + 2) 4 1 (.slice (some ⟨g0, 0, none⟩) (j + 1) cap0) (j + 1) ((freshL j ++ [x]).map Value.bool) := (own0'.alloc _).kept gr1 (.inr (fun he => hap1 g0 he.symm rfl))
   have hne : g0 ≠ g1 := by
    intro he
    rcases at1 with h | h
    ·
     exact hap1 g1 h he.symm
    ·
     omega
   have hb3 : Below w.heap.size w w3 := (hb2.alloc (by omega) _).grown gr1 (by simp; omega) (fun k hk => by have := hrow1 k hk; omega)
   have hsz3 : w.heap.size + 2 ≤ w3.heap.size := by have := gr1.size; simp at this; omega
   obtain ⟨⟨q0, q1⟩, f0, f1⟩ := bix
   have HF : Hid (∃ (v0 v1 : Value), Box2 (w3.setCell ⟨w.heap.size + 1, 1, none⟩ (.slice (some ⟨g1, 0, none⟩) (j + 1) cap1)) w.heap.size (.slice none 0 0) (.slice none 0 0) ∧ Box2 (w3.setCell ⟨w.heap.size + 1, 1, none⟩ (.slice (some ⟨g1, 0, none⟩) (j + 1) cap1)) (w.heap.size + 1) v0 v1 ∧ (w3.setCell ⟨w.heap.size + 1, 1, none⟩ (.slice (some ⟨g1, 0, none⟩) (j + 1) cap1)).ownsRow (w.heap.size + 2) 4 1 v0 (j + 1) ((freshL (j + 1)).map Value.bool) ∧ (w3.setCell ⟨w.heap.size + 1, 1, none⟩ (.slice (some ⟨g1, 0, none⟩) (j + 1) cap1)).ownsRow (w.heap.size + 2) 4 1 v1 (j + 1) ((freshL (j + 1)).map Value.bool) ∧ (∀ g, v0.ownBlock = some g → v1.ownBlock ≠ some g) ∧ Below w.heap.size w (w3.setCell ⟨w.heap.size + 1, 1, none⟩ (.slice (some ⟨g1, 0, none⟩) (j + 1) cap1)) ∧ w.heap.size + 2 ≤ (w3.setCell ⟨w.heap.size + 1, 1, none⟩ (.slice (some ⟨g1, 0, none⟩) (j + 1) cap1)).heap.size) := by
    refine ⟨.slice (some ⟨g0, 0, none⟩) (j + 1) cap0, .slice (some ⟨g1, 0, none⟩) (j + 1) cap1, ?_, bix3.set1 _, by rw [hnx]; exact own_below own0'' (by omega), by rw [hnx]; exact own_below own1 (by omega), ?_, hb3.setCell (p := ⟨w.heap.size + 1, 1, none⟩) (Nat.le_succ _) _, by simpa using hsz3⟩
    ·
     refine ⟨⟨?_, ?_⟩, by simpa using box3.2.1, by simpa using box3.2.2⟩
     ·
      rw [World.cell?_setCell_other _ _ _ _ (fun hh => absurd (congrArg Addr.block hh) (by simp))]; exact box3.1.1
     ·
      rw [World.cell?_setCell_other _ _ _ _ (fun hh => absurd (congrArg Addr.block hh) (by simp))]; exact box3.1.2
    ·
     intro g h1 h2
     simp [Value.ownBlock] at h1 h2
     omega
   obtain ⟨⟨k0, k1⟩, k2, k3⟩ := bix1
   obtain ⟨⟨s0, s1⟩, s2, s3⟩ := bix3
   have hs2 : W2.heap.size = w1.heap.size := by rw [hW2]; simp
   rw [hs2, hW2] at run1
   have t1 : True := trivial
   clear hr0 hr1 hap hbel hsz own0 gr0 at0 box1 hr1' hap1 hb1 hsz1 own0' hr1'' box2 bix2 hb2 hsz2 g0lt own1 gr1 at1 box3 own0'' hb3 hsz3 hrow0 hrow1 hnx hW2 hs2 box ge0 ge1 hne
   by_cases h10 : (j : Int) < 10
   ·
    obtain rfl : x = true := by rw [hx]; simp [h10]
    clear hx
    go_wp2_with (first
     | (at_builtin; have _t := t1; refine Lib.wpList_append_run _ rfl _ _ _ _ rfl _ _ rfl rfl _ _ run0 ?_; clear t1)
     | (at_builtin; refine Lib.wpList_append_run _ rfl _ _ _ _ rfl _ _ rfl rfl _ _ run1 ?_))
    go_roundw
    case rel =>
     obtain ⟨u0, u1, hh⟩ := HF.out
     exact ⟨j + 1, u0, u1, by omega, by go_num, hh⟩
    case measure => simp [intOf]; omega
   ·
    obtain rfl : x = false := by rw [hx]; simp [h10]
    clear hx
    go_wp2_with (first
     | (at_builtin; have _t := t1; refine Lib.wpList_append_run _ rfl _ _ _ _ rfl _ _ rfl rfl _ _ run0 ?_; clear t1)
     | (at_builtin; refine Lib.wpList_append_run _ rfl _ _ _ _ rfl _ _ rfl rfl _ _ run1 ?_))
    go_roundw
    case rel =>
     obtain ⟨u0, u1, hh⟩ := HF.out
     exact ⟨j + 1, u0, u1, by omega, by go_num, hh⟩
    case measure => simp [intOf]; omega
  ·
   obtain rfl : j = n := by omega
   obtain ⟨a1, c1, rfl, O1⟩ := ownT_of (freshL_length j) hr0
   obtain ⟨a2, c2, rfl, O2⟩ := ownT_of (freshL_length j) hr1
   obtain ⟨⟨q0, q1⟩, -, -⟩ := bix
   obtain ⟨⟨r0, r1⟩, f0, f1⟩ := box
   have H1 : Hid (OwnT (w.heap.size + 2) wr a1 c1 (freshL j)) := O1
   have H2 : Hid (OwnT (w.heap.size + 2) wr a2 c2 (freshL j)) := O2
   clear hr0 hr1 hap O1 O2
   go_wp2
   refine bodyPost_ret (v := .agg #[.slice a1 j c1, .slice a2 j c2]) (by simp [results, Try.results12, go_sem, r0, r1]) rfl ⟨a1, c1, a2, c2, rfl, ?_, ?_, below_set2 hbel (Nat.le_refl _)⟩
   ·
    exact ((H1.out.store (by omega) _ _).store (by omega) _ _).mono (by omega)
   ·
    exact ((H2.out.store (by omega) _ _).store (by omega) _ _).mono (by omega)
theorem fresh11 : rightW (freshL 24) (freshL 24) (List.replicate 24 ⟨#[]⟩) 0 1 = true := by decide +kernel
theorem check_fresh : checkE true (freshL 24) (treeS (freshL 24) (List.replicate 24 ⟨#[]⟩) 0 1) [] = 0 := by decide +kernel
theorem check_none : rightW [] [] [] 0 0 = false := by decide +kernel
theorem isS_made11 (W : World) (n g : Nat) (Z : Array Value) (hZ : Z = (List.replicate n (Value.string ⟨#[]⟩)).toArray) (hn : n ≤ maxLen) (hg : g = W.heap.size) : IsS (W.alloc (.cells Z 9)) (some ⟨g, 0, none⟩) n (List.replicate n ⟨#[]⟩) := by
 subst hg hZ
 refine ⟨by simp, hn, fun j x hx => ?_⟩
 obtain ⟨hj, hx'⟩ := List.getElem?_eq_some_iff.1 hx
 have hx2 : x = ⟨#[]⟩ := by rw [List.getElem_replicate] at hx'; exact hx'.symm
 subst hx2
 simp at hj
 have hc : (W.alloc (.cells (List.replicate n (Value.string ⟨#[]⟩)).toArray 9)).cell? ⟨W.heap.size, j, none⟩ = some (.string ⟨#[]⟩) := (World.cell?_alloc_at _ _ _ _ rfl).trans (show (List.replicate n (Value.string ⟨#[]⟩)).toArray[j]? = some (.string ⟨#[]⟩) by simp [hj])
 exact ⟨W.heap.size, 0, rfl, by simp, by rw [Nat.zero_add]; exact hc, Nat.zero_le _⟩
def Box5c (w : World) (h : Nat) : Prop :=
 WoodBox w h (.slice none 0 0) (.slice none 0 0) (.slice none 0 0) (.int .i64 0) (.int .i64 0) ∧ w.frozen? ⟨h, 0, none⟩ = false ∧ w.frozen? ⟨h, 1, none⟩ = false ∧ w.frozen? ⟨h, 2, none⟩ = false ∧ w.frozen? ⟨h, 3, none⟩ = false ∧ w.frozen? ⟨h, 4, none⟩ = false
theorem box5c_new (w : World) (t : TypeId) : Box5c (w.alloc (.cells #[.slice none 0 0, .slice none 0 0, .slice none 0 0, .int .i64 0, .int .i64 0] t)) w.heap.size := by
 refine ⟨woodBox_new w _ _ _ _ _ t rfl, ?_, ?_, ?_, ?_, ?_⟩
 ·
  exact (World.frozen?_alloc_mark w _ _ _ _ 0).trans (by simp)
 ·
  exact (World.frozen?_alloc_mark w _ _ _ _ 1).trans (by simp)
 ·
  exact (World.frozen?_alloc_mark w _ _ _ _ 2).trans (by simp)
 ·
  exact (World.frozen?_alloc_mark w _ _ _ _ 3).trans (by simp)
 ·
  exact (World.frozen?_alloc_mark w _ _ _ _ 4).trans (by simp)
theorem Box5c.lt {w : World} {h : Nat} (b : Box5c w h) : h < w.heap.size := cell_lt b.1.1
theorem Box5c.below {w w' : World} {h : Nat} (b : Box5c w h) (hb : Below w.heap.size w w') : Box5c w' h :=
 have hl := b.lt
 ⟨b.1.below hb, by rw [hb.frozen (p := ⟨h, 0, none⟩) hl]; exact b.2.1, by rw [hb.frozen (p := ⟨h, 1, none⟩) hl]; exact b.2.2.1, by rw [hb.frozen (p := ⟨h, 2, none⟩) hl]; exact b.2.2.2.1, by rw [hb.frozen (p := ⟨h, 3, none⟩) hl]; exact b.2.2.2.2.1, by rw [hb.frozen (p := ⟨h, 4, none⟩) hl]; exact b.2.2.2.2.2⟩
theorem own_off {B g : Nat} {X : World} {a : Option Addr} {c : Nat} {l : List Bool} (o : OwnT B X a c l) (h : g < B) : ∀ x, a = some x → x.block ≠ g := by
 intro x hx e
 rcases o with ⟨h1, _⟩ | ⟨g', h1, h2, _⟩
 ·
  rw [h1] at hx; cases hx
 ·
  rw [h1] at hx
  cases hx
  have e' : g' = g := e
  omega
theorem isB_off {X : World} {a : Option Addr} {c : Nat} {l : List Bool} (o : IsB X a c l) (h : 0 < l.length) : ∀ x, a = some x → x.block ≠ X.heap.size := by
 intro x hx e
 obtain ⟨b, o', ha, hl⟩ := o.some h
 rw [ha] at hx
 cases hx
 have e' : b = X.heap.size := e
 omega
theorem isB_turns {P : Nat → Prop} {w w' : World} {a : Option Addr} {c : Nat} {l : List Bool} (h : IsB w a c l) (t : Turns P w w') (hp : ∀ x, a = some x → ¬ P x.block) : IsB w' a c l := by
 refine ⟨h.1, h.2.1, fun j x hx => ?_⟩
 obtain ⟨b, o, ha, hlt, hc⟩ := h.2.2 j x hx
 exact ⟨b, o, ha, Nat.lt_of_lt_of_le hlt t.size, t.cell (p := ⟨b, o + j, none⟩) (hp ⟨b, o, none⟩ ha) hc⟩
def FreshAt (w U : World) (L : List Bool) (P : List ByteArray) (g : Nat) (a1 : Option Addr) (c1 : Nat) (a2 : Option Addr) (c2 qb : Nat) : Prop :=
 WoodBox U g (.slice a1 24 c1) (.slice a2 24 c2) (.slice (some ⟨qb, 0, none⟩) 24 24) (.int .i64 0) (.int .i64 1) ∧ IsB U a1 c1 L ∧ IsB U a2 c2 L ∧ IsS U (some ⟨qb, 0, none⟩) 24 P ∧ Below w.heap.size w U
theorem fresh_put {w X : World} {L : List Bool} {P : List ByteArray} {g : Nat} {a1 : Option Addr} {c1 : Nat} {a2 : Option Addr} {c2 qb : Nat} (b : Box5c X g) (i1 : IsB X a1 c1 L) (i2 : IsB X a2 c2 L) (ip : IsS X (some ⟨qb, 0, none⟩) 24 P) (n1 : ∀ x, a1 = some x → x.block ≠ g) (n2 : ∀ x, a2 = some x → x.block ≠ g) (n3 : qb ≠ g) (hg : Below w.heap.size w X ∧ w.heap.size ≤ g) :
  FreshAt w (((((X.setCell ⟨g, 0, none⟩ (.slice a1 24 c1)).setCell ⟨g, 1, none⟩ (.slice a2 24 c2)).setCell ⟨g, 2, none⟩ (.slice (some ⟨qb, 0, none⟩) 24 24)).setCell ⟨g, 3, none⟩ (.int .i64 0)).setCell ⟨g, 4, none⟩ (.int .i64 1)) L P g a1 c1 a2 c2 qb := by
 obtain ⟨⟨b0, b1, b2, b3, b4⟩, -⟩ := b
 have o : ∀ (V : World) (i j : Nat) (x u : Value), i ≠ j → V.cell? ⟨g, i, none⟩ = some x → (V.setCell ⟨g, j, none⟩ u).cell? ⟨g, i, none⟩ = some x := fun V i j x u hi hx => by rw [World.cell?_setCell_other _ _ _ _ (fun hh => hi (by cases hh; rfl))]; exact hx
 have t : Turns (fun k => k = g) X (((((X.setCell ⟨g, 0, none⟩ (.slice a1 24 c1)).setCell ⟨g, 1, none⟩ (.slice a2 24 c2)).setCell ⟨g, 2, none⟩ (.slice (some ⟨qb, 0, none⟩) 24 24)).setCell ⟨g, 3, none⟩ (.int .i64 0)).setCell ⟨g, 4, none⟩ (.int .i64 1)) :=
  ((((Turns.setCell (P := fun k => k = g) (Turns.refl _ _) (p := ⟨g, 0, none⟩) rfl _).setCell (p := ⟨g, 1, none⟩) rfl _).setCell (p := ⟨g, 2, none⟩) rfl _).setCell (p := ⟨g, 3, none⟩) rfl _).setCell (p := ⟨g, 4, none⟩) rfl _
 refine ⟨⟨?_, ?_, ?_, ?_, ?_⟩, isB_turns i1 t n1, isB_turns i2 t n2, ip.turns t (fun x hx e => by cases hx; exact n3 e), Below.turns hg.1 t (fun i hi => by rw [hi]; exact hg.2)⟩
 ·
  exact o _ 0 4 _ _ (by decide) (o _ 0 3 _ _ (by decide) (o _ 0 2 _ _ (by decide) (o _ 0 1 _ _ (by decide) (World.cell?_setCell_same _ _ _ b0))))
 ·
  exact o _ 1 4 _ _ (by decide) (o _ 1 3 _ _ (by decide) (o _ 1 2 _ _ (by decide) (World.cell?_setCell_same _ _ _ (o _ 1 0 _ _ (by decide) b1))))
 ·
  exact o _ 2 4 _ _ (by decide) (o _ 2 3 _ _ (by decide) (World.cell?_setCell_same _ _ _ (o _ 2 1 _ _ (by decide) (o _ 2 0 _ _ (by decide) b2))))
 ·
  exact o _ 3 4 _ _ (by decide) (World.cell?_setCell_same _ _ _ (o _ 3 2 _ _ (by decide) (o _ 3 1 _ _ (by decide) (o _ 3 0 _ _ (by decide) b3))))
 ·
  exact World.cell?_setCell_same _ _ _ (o _ 4 3 _ _ (by decide) (o _ 4 2 _ _ (by decide) (o _ 4 1 _ _ (by decide) (o _ 4 0 _ _ (by decide) b4))))
set_option maxRecDepth 20000 in
set_option maxHeartbeats 4000000 in
theorem alive11_any (w : World) : Calls Try.prog 6 #[] w fun e w' => e = .returned (.bool true) ∧ Below w.heap.size w w' := by
 have cN := fun V => allocRefNewF_any 24 V (by decide)
 have fr := fresh11
 have cf := check_fresh
 obtain ⟨P, hP⟩ : ∃ P, P = List.replicate 24 (⟨#[]⟩ : ByteArray) := ⟨_, rfl⟩
 obtain ⟨L, hL⟩ : ∃ L, L = freshL 24 := ⟨_, rfl⟩
 have l1 : Hid (24 = L.length) := by show _ = _; rw [hL]; decide
 have l24 : Hid (0 < L.length) := by show _ < _; rw [← l1.out]; decide
 have l2 : Hid (24 = P.length) := by show _ = _; rw [hP]; rfl
 rw [← hL, ← hP] at fr cf
 have HP : Hid (List.replicate 24 (⟨#[]⟩ : ByteArray) = P) := hP.symm
 rw [← hL] at cN
 clear hL hP
 obtain ⟨Z, hmk, hZ⟩ : ∃ Z : Array Value, (∀ W : World, (Instr.makeSlice 25 (.int .i64 24) (.int .i64 24)).run Try.prog W = .ok (.slice (some ⟨W.heap.size, 0, none⟩) 24 24) (W.alloc (.cells Z 9))) ∧ Hid (Z = (List.replicate 24 (Value.string ⟨#[]⟩)).toArray) :=
  ⟨madeCells #[.string ⟨#[]⟩] 24, fun W => run_make_row' (P := Try.prog) 25 9 (.string ⟨#[]⟩) 16 Try.underlying25 Try.info9 rfl .i64 .i64 24 (by omega) (by omega) W, made_one _ 24⟩
 obtain ⟨X0, hX0⟩ : ∃ X, X = w.drew := ⟨_, rfl⟩
 have HB0 : Below w.heap.size w X0 := by rw [hX0]; exact (Below.refl _ _).drew
 have HX0 : Hid (X0 = w.drew) := hX0
 clear hX0
 go_enter Try.func6, Try.ntmps6
 go_wp2
 refine (fun (key : Hid (∀ X g a1 c1 a2 c2 qb, FreshAt w X L P g a1 c1 a2 c2 qb → (?prop : World → Nat → Option Addr → Nat → Option Addr → Nat → Nat → Prop) X g a1 c1 a2 c2 qb)) => ?reg) ?kont
 case reg =>
  refine wp_region_noPanic ?_
  refine wp_region_held_drew (S := fun X => True) (by kernel_rfl) trivial (fun hHeld => ?_)
  rw [← HX0.out]
  have HB := HB0
  refine wpAnyH_ready (rs := [0, 1, 3]) (by kernel_rfl) (by simp) ?_
  refine cons_at (i := 0) rfl (fun K hK => ?c00) (cons_at (i := 1) rfl (fun K hK => ?c10) (cons_at (i := 3) rfl (fun K hK => ?c30) AllReadyH.nil))
  case c00 =>
   go_simp
   go_at_call 12
   refine (cN X0).mono ?_
   rintro y X1 ⟨a1, c1, a2, c2, rfl, o1, o2, hb⟩
   have I1 := o1.isB
   have I2 := o2.isB
   replace HB := Below.tr HB hb
   clear hb o1 o2
   refine hK.out _ _ ?_ (fun hHeld1 => ?_)
   ·
    trivial
   clear hK K
   try go_frame
   refine wpAnyH_ready (rs := [1, 3]) (by kernel_rfl) (by simp) ?_
   refine cons_at (i := 1) rfl (fun K hK => ?c11) (cons_at (i := 3) rfl (fun K hK => ?c31) AllReadyH.nil)
   case c11 =>
    go_simp
    have hb : Below X1.heap.size X1 (X1.alloc (.cells Z 9)) := (Below.refl _ _).alloc (Nat.le_refl _) _
    have IP := HP.out ▸ isS_made11 X1 24 X1.heap.size Z hZ.out (by decide) rfl
    have hqb : X1.heap.size < (X1.alloc (.cells Z 9)).heap.size := by simp
    replace I1 := I1.below hb
    replace I2 := I2.below hb
    replace HB := Below.tr HB hb
    clear hb
    generalize X1.alloc (.cells Z 9) = X2 at HB IP hqb I1 I2 ⊢
    generalize X1.heap.size = qb at IP hqb ⊢
    refine hK.out _ _ ?_ (fun hHeld2 => ?_)
    ·
     trivial
    clear hK K
    try go_frame
    refine take_at (i := 2) (v := ?_) rfl (by kernel_rfl) (by kernel_rfl) (by kernel_rfl) (fun _ _ _ h => h) (Or.inl ⟨by rfl, ?_⟩) (by assumption) ?_
    rotate_left 1
    ·
     (intro w hSw; (try dsimp only at hSw); go_simp; (try with_reducible rfl))
    try go_frame
    refine wpAnyH_ready (rs := [3]) (by kernel_rfl) (by simp) ?_
    refine cons_at (i := 3) rfl (fun K hK => ?c32) AllReadyH.nil
    case c32 =>
     go_simp
     have hb : Below X2.heap.size X2 (X2.alloc (.cells #[.slice none 0 0, .slice none 0 0, .slice none 0 0, .int .i64 0, .int .i64 0] 27)) := (Below.refl _ _).alloc (Nat.le_refl _) _
     have N1 : Hid ((∀ x, a1 = some x → x.block ≠ X2.heap.size) ∧ ∀ x, a2 = some x → x.block ≠ X2.heap.size) := ⟨isB_off I1 l24.out, isB_off I2 l24.out⟩
     replace I1 := I1.below hb
     replace I2 := I2.below hb
     have N2 : Hid (qb ≠ X2.heap.size) := fun e => by omega
     replace IP := IP.below hb
     replace hqb := Nat.lt_of_lt_of_le hqb hb.size
     have BX := box5c_new X2 27
     have hb0 := HB.size
     replace HB := Below.tr HB hb
     clear hb
     have hg : w.heap.size ≤ X2.heap.size := hb0
     generalize X2.alloc (.cells #[.slice none 0 0, .slice none 0 0, .slice none 0 0, .int .i64 0, .int .i64 0] 27) = X3 at HB BX IP hqb I1 I2 ⊢
     generalize X2.heap.size = g at BX hg N2 N1 ⊢
     refine hK.out _ _ ?_ (fun hHeld3 => ?_)
     ·
      trivial
     clear hK K
     try go_frame
     obtain ⟨⟨g0, g1, g2, g3, g4⟩, e0, e1, e2, e3, e4⟩ := id BX
     refine wpAnyH_ready (rs := [4]) (by kernel_rfl) (by simp) ?_
     refine cons_at (i := 4) rfl (fun K hK => ?_) AllReadyH.nil
     go_simp
     have F := fresh_put BX I1 I2 IP N1.out.1 N1.out.2 N2.out ⟨HB, hg⟩
     refine hK.out _ _ ?_ (fun hHeldZ => ?_)
     ·
      trivial
     clear hK K
     try go_frame
     refine wpAnyH_done (by kernel_rfl) ?_ _
     refine NoPanic.normal ?_
     generalize ((((X3.setCell ⟨g, 0, none⟩ (.slice a1 24 c1)).setCell ⟨g, 1, none⟩ (.slice a2 24 c2)).setCell ⟨g, 2, none⟩ (.slice (some ⟨qb, 0, none⟩) 24 24)).setCell ⟨g, 3, none⟩ (.int .i64 0)).setCell ⟨g, 4, none⟩ (.int .i64 1) = Y at F ⊢
     exact key.out Y g a1 c1 a2 c2 qb F
   case c31 =>
    go_simp
    have hb : Below X1.heap.size X1 (X1.alloc (.cells #[.slice none 0 0, .slice none 0 0, .slice none 0 0, .int .i64 0, .int .i64 0] 27)) := (Below.refl _ _).alloc (Nat.le_refl _) _
    have N1 : Hid ((∀ x, a1 = some x → x.block ≠ X1.heap.size) ∧ ∀ x, a2 = some x → x.block ≠ X1.heap.size) := ⟨isB_off I1 l24.out, isB_off I2 l24.out⟩
    replace I1 := I1.below hb
    replace I2 := I2.below hb
    have BX := box5c_new X1 27
    have hb0 := HB.size
    replace HB := Below.tr HB hb
    clear hb
    have hg : w.heap.size ≤ X1.heap.size := hb0
    generalize X1.alloc (.cells #[.slice none 0 0, .slice none 0 0, .slice none 0 0, .int .i64 0, .int .i64 0] 27) = X2 at HB BX I1 I2 ⊢
    generalize X1.heap.size = g at BX hg N1 ⊢
    refine hK.out _ _ ?_ (fun hHeld2 => ?_)
    ·
     trivial
    clear hK K
    try go_frame
    refine wpAnyH_ready (rs := [1]) (by kernel_rfl) (by simp) ?_
    refine cons_at (i := 1) rfl (fun K hK => ?c12) AllReadyH.nil
    case c12 =>
     go_simp
     have hb : Below X2.heap.size X2 (X2.alloc (.cells Z 9)) := (Below.refl _ _).alloc (Nat.le_refl _) _
     have IP := HP.out ▸ isS_made11 X2 24 X2.heap.size Z hZ.out (by decide) rfl
     have hqb : X2.heap.size < (X2.alloc (.cells Z 9)).heap.size := by simp
     have N2 : Hid (X2.heap.size ≠ g) := by have := BX.lt; exact fun e => by omega
     replace BX := BX.below hb
     replace I1 := I1.below hb
     replace I2 := I2.below hb
     replace HB := Below.tr HB hb
     clear hb
     generalize X2.alloc (.cells Z 9) = X3 at HB IP hqb BX N2 I1 I2 ⊢
     generalize X2.heap.size = qb at IP hqb N2 ⊢
     refine hK.out _ _ ?_ (fun hHeld3 => ?_)
     ·
      trivial
     clear hK K
     try go_frame
     obtain ⟨⟨g0, g1, g2, g3, g4⟩, e0, e1, e2, e3, e4⟩ := id BX
     refine take_at (i := 2) (v := ?_) rfl (by kernel_rfl) (by kernel_rfl) (by kernel_rfl) (fun _ _ _ h => h) (Or.inl ⟨by rfl, ?_⟩) (by assumption) ?_
     rotate_left 1
     ·
      (intro w hSw; (try dsimp only at hSw); go_simp; (try with_reducible rfl))
     try go_frame
     refine wpAnyH_ready (rs := [4]) (by kernel_rfl) (by simp) ?_
     refine cons_at (i := 4) rfl (fun K hK => ?_) AllReadyH.nil
     go_simp
     have F := fresh_put BX I1 I2 IP N1.out.1 N1.out.2 N2.out ⟨HB, hg⟩
     refine hK.out _ _ ?_ (fun hHeldZ => ?_)
     ·
      trivial
     clear hK K
     try go_frame
     refine wpAnyH_done (by kernel_rfl) ?_ _
     refine NoPanic.normal ?_
     generalize ((((X3.setCell ⟨g, 0, none⟩ (.slice a1 24 c1)).setCell ⟨g, 1, none⟩ (.slice a2 24 c2)).setCell ⟨g, 2, none⟩ (.slice (some ⟨qb, 0, none⟩) 24 24)).setCell ⟨g, 3, none⟩ (.int .i64 0)).setCell ⟨g, 4, none⟩ (.int .i64 1) = Y at F ⊢
     exact key.out Y g a1 c1 a2 c2 qb F
  case c10 =>
   go_simp
   have hb : Below X0.heap.size X0 (X0.alloc (.cells Z 9)) := (Below.refl _ _).alloc (Nat.le_refl _) _
   have IP := HP.out ▸ isS_made11 X0 24 X0.heap.size Z hZ.out (by decide) rfl
   have hqb : X0.heap.size < (X0.alloc (.cells Z 9)).heap.size := by simp
   replace HB := Below.tr HB hb
   clear hb
   generalize X0.alloc (.cells Z 9) = X1 at HB IP hqb ⊢
   generalize X0.heap.size = qb at IP hqb ⊢
   refine hK.out _ _ ?_ (fun hHeld1 => ?_)
   ·
    trivial
   clear hK K
   try go_frame
   refine wpAnyH_ready (rs := [0, 3]) (by kernel_rfl) (by simp) ?_
   refine cons_at (i := 0) rfl (fun K hK => ?c01) (cons_at (i := 3) rfl (fun K hK => ?c31) AllReadyH.nil)
   case c01 =>
    go_simp
    go_at_call 12
    refine (cN X1).mono ?_
    rintro y X2 ⟨a1, c1, a2, c2, rfl, o1, o2, hb⟩
    have I1 := o1.isB
    have I2 := o2.isB
    replace IP := IP.below hb
    replace hqb := Nat.lt_of_lt_of_le hqb hb.size
    replace HB := Below.tr HB hb
    clear hb o1 o2
    refine hK.out _ _ ?_ (fun hHeld2 => ?_)
    ·
     trivial
    clear hK K
    try go_frame
    refine take_at (i := 2) (v := ?_) rfl (by kernel_rfl) (by kernel_rfl) (by kernel_rfl) (fun _ _ _ h => h) (Or.inl ⟨by rfl, ?_⟩) (by assumption) ?_
    rotate_left 1
    ·
     (intro w hSw; (try dsimp only at hSw); go_simp; (try with_reducible rfl))
    try go_frame
    refine wpAnyH_ready (rs := [3]) (by kernel_rfl) (by simp) ?_
    refine cons_at (i := 3) rfl (fun K hK => ?c32) AllReadyH.nil
    case c32 =>
     go_simp
     have hb : Below X2.heap.size X2 (X2.alloc (.cells #[.slice none 0 0, .slice none 0 0, .slice none 0 0, .int .i64 0, .int .i64 0] 27)) := (Below.refl _ _).alloc (Nat.le_refl _) _
     have N1 : Hid ((∀ x, a1 = some x → x.block ≠ X2.heap.size) ∧ ∀ x, a2 = some x → x.block ≠ X2.heap.size) := ⟨isB_off I1 l24.out, isB_off I2 l24.out⟩
     replace I1 := I1.below hb
     replace I2 := I2.below hb
     have N2 : Hid (qb ≠ X2.heap.size) := fun e => by omega
     replace IP := IP.below hb
     replace hqb := Nat.lt_of_lt_of_le hqb hb.size
     have BX := box5c_new X2 27
     have hb0 := HB.size
     replace HB := Below.tr HB hb
     clear hb
     have hg : w.heap.size ≤ X2.heap.size := hb0
     generalize X2.alloc (.cells #[.slice none 0 0, .slice none 0 0, .slice none 0 0, .int .i64 0, .int .i64 0] 27) = X3 at HB BX IP hqb I1 I2 ⊢
     generalize X2.heap.size = g at BX hg N2 N1 ⊢
     refine hK.out _ _ ?_ (fun hHeld3 => ?_)
     ·
      trivial
     clear hK K
     try go_frame
     obtain ⟨⟨g0, g1, g2, g3, g4⟩, e0, e1, e2, e3, e4⟩ := id BX
     refine wpAnyH_ready (rs := [4]) (by kernel_rfl) (by simp) ?_
     refine cons_at (i := 4) rfl (fun K hK => ?_) AllReadyH.nil
     go_simp
     have F := fresh_put BX I1 I2 IP N1.out.1 N1.out.2 N2.out ⟨HB, hg⟩
     refine hK.out _ _ ?_ (fun hHeldZ => ?_)
     ·
      trivial
     clear hK K
     try go_frame
     refine wpAnyH_done (by kernel_rfl) ?_ _
     refine NoPanic.normal ?_
     generalize ((((X3.setCell ⟨g, 0, none⟩ (.slice a1 24 c1)).setCell ⟨g, 1, none⟩ (.slice a2 24 c2)).setCell ⟨g, 2, none⟩ (.slice (some ⟨qb, 0, none⟩) 24 24)).setCell ⟨g, 3, none⟩ (.int .i64 0)).setCell ⟨g, 4, none⟩ (.int .i64 1) = Y at F ⊢
     exact key.out Y g a1 c1 a2 c2 qb F
   case c31 =>
    go_simp
    have hb : Below X1.heap.size X1 (X1.alloc (.cells #[.slice none 0 0, .slice none 0 0, .slice none 0 0, .int .i64 0, .int .i64 0] 27)) := (Below.refl _ _).alloc (Nat.le_refl _) _
    have N2 : Hid (qb ≠ X1.heap.size) := fun e => by omega
    replace IP := IP.below hb
    replace hqb := Nat.lt_of_lt_of_le hqb hb.size
    have BX := box5c_new X1 27
    have hb0 := HB.size
    replace HB := Below.tr HB hb
    clear hb
    have hg : w.heap.size ≤ X1.heap.size := hb0
    generalize X1.alloc (.cells #[.slice none 0 0, .slice none 0 0, .slice none 0 0, .int .i64 0, .int .i64 0] 27) = X2 at HB BX IP hqb ⊢
    generalize X1.heap.size = g at BX hg N2 ⊢
    refine hK.out _ _ ?_ (fun hHeld2 => ?_)
    ·
     trivial
    clear hK K
    try go_frame
    refine wpAnyH_ready (rs := [0]) (by kernel_rfl) (by simp) ?_
    refine cons_at (i := 0) rfl (fun K hK => ?c02) AllReadyH.nil
    case c02 =>
     go_simp
     go_at_call 12
     refine (cN X2).mono ?_
     rintro y X3 ⟨a1, c1, a2, c2, rfl, o1, o2, hb⟩
     have I1 := o1.isB
     have I2 := o2.isB
     have N1 : Hid ((∀ x, a1 = some x → x.block ≠ g) ∧ ∀ x, a2 = some x → x.block ≠ g) := ⟨own_off o1 BX.lt, own_off o2 BX.lt⟩
     replace BX := BX.below hb
     replace IP := IP.below hb
     replace hqb := Nat.lt_of_lt_of_le hqb hb.size
     replace HB := Below.tr HB hb
     clear hb o1 o2
     refine hK.out _ _ ?_ (fun hHeld3 => ?_)
     ·
      trivial
     clear hK K
     try go_frame
     obtain ⟨⟨g0, g1, g2, g3, g4⟩, e0, e1, e2, e3, e4⟩ := id BX
     refine take_at (i := 2) (v := ?_) rfl (by kernel_rfl) (by kernel_rfl) (by kernel_rfl) (fun _ _ _ h => h) (Or.inl ⟨by rfl, ?_⟩) (by assumption) ?_
     rotate_left 1
     ·
      (intro w hSw; (try dsimp only at hSw); go_simp; (try with_reducible rfl))
     try go_frame
     refine wpAnyH_ready (rs := [4]) (by kernel_rfl) (by simp) ?_
     refine cons_at (i := 4) rfl (fun K hK => ?_) AllReadyH.nil
     go_simp
     have F := fresh_put BX I1 I2 IP N1.out.1 N1.out.2 N2.out ⟨HB, hg⟩
     refine hK.out _ _ ?_ (fun hHeldZ => ?_)
     ·
      trivial
     clear hK K
     try go_frame
     refine wpAnyH_done (by kernel_rfl) ?_ _
     refine NoPanic.normal ?_
     generalize ((((X3.setCell ⟨g, 0, none⟩ (.slice a1 24 c1)).setCell ⟨g, 1, none⟩ (.slice a2 24 c2)).setCell ⟨g, 2, none⟩ (.slice (some ⟨qb, 0, none⟩) 24 24)).setCell ⟨g, 3, none⟩ (.int .i64 0)).setCell ⟨g, 4, none⟩ (.int .i64 1) = Y at F ⊢
     exact key.out Y g a1 c1 a2 c2 qb F
  case c30 =>
   go_simp
   have hb : Below X0.heap.size X0 (X0.alloc (.cells #[.slice none 0 0, .slice none 0 0, .slice none 0 0, .int .i64 0, .int .i64 0] 27)) := (Below.refl _ _).alloc (Nat.le_refl _) _
   have BX := box5c_new X0 27
   have hb0 := HB.size
   replace HB := Below.tr HB hb
   clear hb
   have hg : w.heap.size ≤ X0.heap.size := hb0
   generalize X0.alloc (.cells #[.slice none 0 0, .slice none 0 0, .slice none 0 0, .int .i64 0, .int .i64 0] 27) = X1 at HB BX ⊢
   generalize X0.heap.size = g at BX hg ⊢
   refine hK.out _ _ ?_ (fun hHeld1 => ?_)
   ·
    trivial
   clear hK K
   try go_frame
   refine wpAnyH_ready (rs := [0, 1]) (by kernel_rfl) (by simp) ?_
   refine cons_at (i := 0) rfl (fun K hK => ?c01) (cons_at (i := 1) rfl (fun K hK => ?c11) AllReadyH.nil)
   case c01 =>
    go_simp
    go_at_call 12
    refine (cN X1).mono ?_
    rintro y X2 ⟨a1, c1, a2, c2, rfl, o1, o2, hb⟩
    have I1 := o1.isB
    have I2 := o2.isB
    have N1 : Hid ((∀ x, a1 = some x → x.block ≠ g) ∧ ∀ x, a2 = some x → x.block ≠ g) := ⟨own_off o1 BX.lt, own_off o2 BX.lt⟩
    replace BX := BX.below hb
    replace HB := Below.tr HB hb
    clear hb o1 o2
    refine hK.out _ _ ?_ (fun hHeld2 => ?_)
    ·
     trivial
    clear hK K
    try go_frame
    refine wpAnyH_ready (rs := [1]) (by kernel_rfl) (by simp) ?_
    refine cons_at (i := 1) rfl (fun K hK => ?c12) AllReadyH.nil
    case c12 =>
     go_simp
     have hb : Below X2.heap.size X2 (X2.alloc (.cells Z 9)) := (Below.refl _ _).alloc (Nat.le_refl _) _
     have IP := HP.out ▸ isS_made11 X2 24 X2.heap.size Z hZ.out (by decide) rfl
     have hqb : X2.heap.size < (X2.alloc (.cells Z 9)).heap.size := by simp
     have N2 : Hid (X2.heap.size ≠ g) := by have := BX.lt; exact fun e => by omega
     replace BX := BX.below hb
     replace I1 := I1.below hb
     replace I2 := I2.below hb
     replace HB := Below.tr HB hb
     clear hb
     generalize X2.alloc (.cells Z 9) = X3 at HB IP hqb BX N2 I1 I2 ⊢
     generalize X2.heap.size = qb at IP hqb N2 ⊢
     refine hK.out _ _ ?_ (fun hHeld3 => ?_)
     ·
      trivial
     clear hK K
     try go_frame
     obtain ⟨⟨g0, g1, g2, g3, g4⟩, e0, e1, e2, e3, e4⟩ := id BX
     refine take_at (i := 2) (v := ?_) rfl (by kernel_rfl) (by kernel_rfl) (by kernel_rfl) (fun _ _ _ h => h) (Or.inl ⟨by rfl, ?_⟩) (by assumption) ?_
     rotate_left 1
     ·
      (intro w hSw; (try dsimp only at hSw); go_simp; (try with_reducible rfl))
     try go_frame
     refine wpAnyH_ready (rs := [4]) (by kernel_rfl) (by simp) ?_
     refine cons_at (i := 4) rfl (fun K hK => ?_) AllReadyH.nil
     go_simp
     have F := fresh_put BX I1 I2 IP N1.out.1 N1.out.2 N2.out ⟨HB, hg⟩
     refine hK.out _ _ ?_ (fun hHeldZ => ?_)
     ·
      trivial
     clear hK K
     try go_frame
     refine wpAnyH_done (by kernel_rfl) ?_ _
     refine NoPanic.normal ?_
     generalize ((((X3.setCell ⟨g, 0, none⟩ (.slice a1 24 c1)).setCell ⟨g, 1, none⟩ (.slice a2 24 c2)).setCell ⟨g, 2, none⟩ (.slice (some ⟨qb, 0, none⟩) 24 24)).setCell ⟨g, 3, none⟩ (.int .i64 0)).setCell ⟨g, 4, none⟩ (.int .i64 1) = Y at F ⊢
     exact key.out Y g a1 c1 a2 c2 qb F
   case c11 =>
    go_simp
    have hb : Below X1.heap.size X1 (X1.alloc (.cells Z 9)) := (Below.refl _ _).alloc (Nat.le_refl _) _
    have IP := HP.out ▸ isS_made11 X1 24 X1.heap.size Z hZ.out (by decide) rfl
    have hqb : X1.heap.size < (X1.alloc (.cells Z 9)).heap.size := by simp
    have N2 : Hid (X1.heap.size ≠ g) := by have := BX.lt; exact fun e => by omega
    replace BX := BX.below hb
    replace HB := Below.tr HB hb
    clear hb
    generalize X1.alloc (.cells Z 9) = X2 at HB IP hqb BX N2 ⊢
    generalize X1.heap.size = qb at IP hqb N2 ⊢
    refine hK.out _ _ ?_ (fun hHeld2 => ?_)
    ·
     trivial
    clear hK K
    try go_frame
    refine wpAnyH_ready (rs := [0]) (by kernel_rfl) (by simp) ?_
    refine cons_at (i := 0) rfl (fun K hK => ?c02) AllReadyH.nil
    case c02 =>
     go_simp
     go_at_call 12
     refine (cN X2).mono ?_
     rintro y X3 ⟨a1, c1, a2, c2, rfl, o1, o2, hb⟩
     have I1 := o1.isB
     have I2 := o2.isB
     have N1 : Hid ((∀ x, a1 = some x → x.block ≠ g) ∧ ∀ x, a2 = some x → x.block ≠ g) := ⟨own_off o1 BX.lt, own_off o2 BX.lt⟩
     replace BX := BX.below hb
     replace IP := IP.below hb
     replace hqb := Nat.lt_of_lt_of_le hqb hb.size
     replace HB := Below.tr HB hb
     clear hb o1 o2
     refine hK.out _ _ ?_ (fun hHeld3 => ?_)
     ·
      trivial
     clear hK K
     try go_frame
     obtain ⟨⟨g0, g1, g2, g3, g4⟩, e0, e1, e2, e3, e4⟩ := id BX
     refine take_at (i := 2) (v := ?_) rfl (by kernel_rfl) (by kernel_rfl) (by kernel_rfl) (fun _ _ _ h => h) (Or.inl ⟨by rfl, ?_⟩) (by assumption) ?_
     rotate_left 1
     ·
      (intro w hSw; (try dsimp only at hSw); go_simp; (try with_reducible rfl))
     try go_frame
     refine wpAnyH_ready (rs := [4]) (by kernel_rfl) (by simp) ?_
     refine cons_at (i := 4) rfl (fun K hK => ?_) AllReadyH.nil
     go_simp
     have F := fresh_put BX I1 I2 IP N1.out.1 N1.out.2 N2.out ⟨HB, hg⟩
     refine hK.out _ _ ?_ (fun hHeldZ => ?_)
     ·
      trivial
     clear hK K
     try go_frame
     refine wpAnyH_done (by kernel_rfl) ?_ _
     refine NoPanic.normal ?_
     generalize ((((X3.setCell ⟨g, 0, none⟩ (.slice a1 24 c1)).setCell ⟨g, 1, none⟩ (.slice a2 24 c2)).setCell ⟨g, 2, none⟩ (.slice (some ⟨qb, 0, none⟩) 24 24)).setCell ⟨g, 3, none⟩ (.int .i64 0)).setCell ⟨g, 4, none⟩ (.int .i64 1) = Y at F ⊢
     exact key.out Y g a1 c1 a2 c2 qb F
 case kont =>
  intro X g a1 c1 a2 c2 qb F
  obtain ⟨BW, i1, i2, ip, HB⟩ := F
  have cC : ∀ V, Below X.heap.size X V → Calls Try.prog 9 #[.agg #[.slice a1 24 c1, .slice a2 24 c2, .slice (some ⟨qb, 0, none⟩) 24 24, .int .i64 0, .int .i64 1], .slice none 0 0] V fun x w' => ∃ p h b, x = .returned (.tuple #[.agg #[.int .i64 p, .int .i64 h, .int .i64 b], .int .i64 0]) ∧ Below V.heap.size V w' := fun V hV => by
   have := check_any a1 a2 (some ⟨qb, 0, none⟩) 24 c1 24 c2 24 24 L L P 0 1 none 0 0 [] V l1.out l1.out l2.out rfl (i1.below hV) (i2.below hV) (ip.below hV) (isI_nil _)
   rw [fr, cf] at this
   exact this.mono fun x w' hh => ⟨_, _, _, hh.1, hh.2⟩
  have cD : ∀ V, Calls Try.prog 9 #[.agg #[.slice none 0 0, .slice none 0 0, .slice none 0 0, .int .i64 0, .int .i64 0], .slice none 0 0] V fun x w' => ∃ p h b, x = .returned (.tuple #[.agg #[.int .i64 p, .int .i64 h, .int .i64 b], .int .i64 1]) ∧ Below V.heap.size V w' := fun V => by
   have := check_any none none none 0 0 0 0 0 0 [] [] [] 0 0 none 0 0 [] V rfl rfl rfl rfl (IsB_nil _) (IsB_nil _) (isS_nil _) (isI_nil _)
   rw [check_none, check_right] at this
   exact this.mono fun x w' hh => ⟨_, _, _, hh.1, hh.2⟩
  obtain ⟨x0, x1, x2, x3, x4⟩ := id BW
  have tok1 : True := trivial
  have tok2 : True := trivial
  clear fr cf l1 l2 l24 i1 i2 ip
  go_wp2_with (first
   | (go_at_call 9; have _t := tok1; refine (cC _ (Below.refl _ _)).mono ?_; rintro y w2 ⟨p1, h1, b1, rfl, hb⟩; replace HB := (Below.tr HB hb).alloc (Below.tr HB hb).size (.cells #[.int .i64 p1, .int .i64 h1, .int .i64 b1] 35); clear tok1 cC x0 x1 x2 x3 x4 hb)
   | (go_at_call 9; have _t := tok2; refine (cD _).mono ?_; rintro y w3 ⟨p2, h2, b2, rfl, hb2⟩; replace HB := (Below.tr HB hb2).alloc (Below.tr HB hb2).size (.cells #[.int .i64 p2, .int .i64 h2, .int .i64 b2] 35); clear tok2))
  go_ret
  exact ⟨rfl, HB⟩
end Go.Proofs.Ytpepgpjiddophaa
namespace Go.Proofs.Ytpepgpjiddophaa
open Go.RowKit Plain Go.ChangeShapes Go.WideShapes
set_option linter.unusedVariables false
theorem array5 {α : Type} {cs : Array α} (h : cs.size = 5) : ∃ c0 c1 c2 c3 c4, cs = #[c0, c1, c2, c3, c4] := by
 rcases cs with ⟨l⟩
 match l, h with
 | [c0, c1, c2, c3, c4], _ => exact ⟨c0, c1, c2, c3, c4, rfl⟩
set_option maxRecDepth 20000 in
theorem open_wood {H : Type} {enc : TypeId × Value → H} {w : World} {r : Reach} {b0 : Nat} {v : Value} {d : DataW H} {p : List MemPlace}
  (hv : Value.okWide Try.prog w r b0 27 v) (h : DataW.Trod enc Try.prog w 0 (fun _ => true) true 27 v d p) :
  ∃ a c bs a' c' ns b f ps root gen, v = .agg #[.slice a bs.length c, .slice a' ns.length c', .slice b ps.length f, .int .i64 root, .int .i64 gen] ∧ IsB w a c bs ∧ IsB w a' c' ns ∧ IsS w b f ps ∧ (Lit.int .i64 root).wf = true ∧ (Lit.int .i64 gen).wf = true := by
 obtain ⟨cs, rfl, hsz⟩ := okWide_struct Try.underlying27 hv
 obtain ⟨c0, c1, c2, c3, c4, rfl⟩ := array5 (hsz.trans (by kernel_rfl))
 obtain ⟨fuel, hf⟩ := h
 obtain ⟨y0, y1, y2, y3, n, hx, _, h0, h1, h2, h3⟩ := Joins.trod_struct4 Try.underlying27 hf
 have s0 : Try.prog.cellsOf 24 = 2 := by kernel_rfl
 have s1 : Try.prog.cellsOf 25 = 1 := by kernel_rfl
 have s2 : Try.prog.cellsOf 3 = 1 := by kernel_rfl
 have s3 : Try.prog.cellsOf 22 = 1 := by kernel_rfl
 simp only [Value.cells, s0, s1, s2, List.drop_zero, List.drop_succ_cons, List.take_succ_cons, List.take_zero] at h0 h1 h2 h3
 obtain ⟨z0, z1, m, _, _, g0, g1⟩ := trod_struct2 Try.underlying24 h0
 simp only [s3, List.drop_zero, List.drop_succ_cons, List.take_succ_cons, List.take_zero] at g0 g1
 obtain ⟨a, c, bs, rfl, hB⟩ := open_B g0
 obtain ⟨a', c', ns, rfl, hB'⟩ := open_B g1
 obtain ⟨b, f, ps, rfl, hP⟩ := open_S h1
 obtain ⟨root, hr, _, wr⟩ := DataW.trod_int (k := .i64) Try.underlying3 h2
 obtain ⟨gen, hg, _, wg⟩ := DataW.trod_int (k := .i64) Try.underlying3 h3
 simp at hr hg
 subst hr hg
 exact ⟨a, c, bs, a', c', ns, b, f, ps, root, gen, rfl, hB, hB', hP, wr, wg⟩
end Go.Proofs.Ytpepgpjiddophaa
namespace Go.Proofs.Ytpepgpjiddophaa
open Go.RowKit Plain
set_option linter.unusedVariables false
set_option maxRecDepth 20000 in
theorem small11_any (a a' b : Option Addr) (n c n' c' p f : Nat) (root gen : Int) (w : World) (hn : n' ≤ 9223372036854775807) (hp : p ≤ 9223372036854775807) :
  Calls Try.prog 5 #[.agg #[.slice a n c, .slice a' n' c', .slice b p f, .int .i64 root, .int .i64 gen]] w fun e w' => e = .returned (.bool (decide (n' ≤ 300) && decide (p ≤ 300))) ∧ Below w.heap.size w w' := by
 have HB : Below w.heap.size w (w.alloc (.cells #[.slice a n c, .slice a' n' c', .slice b p f, .int .i64 root, .int .i64 gen] 27)) := (Below.refl _ _).alloc (Nat.le_refl _) _
 obtain ⟨r, hr⟩ : ∃ r, r = (decide (n' ≤ 300) && decide (p ≤ 300)) := ⟨_, rfl⟩
 rw [← hr]
 by_cases h1 : n' ≤ 300
 ·
  have h1' : (n' : Int) ≤ 300 := by omega
  have hr' : Hid (r = decide ((p : Int) ≤ 300)) := by
   show _ = _
   rw [hr, decide_eq_true h1, Bool.true_and]
   exact decide_eq_decide.2 (by omega)
  clear hr h1
  go_enter Try.func5, Try.ntmps5
  go_wp2
  go_ret
  exact ⟨by rw [hr'.out]; rfl, HB⟩
 ·
  have h1' : ¬ (n' : Int) ≤ 300 := by omega
  have hr' : r = false := by rw [hr, decide_eq_false h1]; rfl
  clear hr h1
  go_enter Try.func5, Try.ntmps5
  go_wp2
  go_ret
  exact ⟨rfl, HB⟩
section
variable {V : World} {h : Nat} {a : Option Addr} {n c : Nat} {a' : Option Addr} {n' c' : Nat} {b : Option Addr} {p f : Nat} {bs ns : List Bool} {ps : List ByteArray} {root gen : Int}
theorem check_in (x : WoodIn V h a n c a' n' c' b p f bs ns ps root gen) (am : Option Addr) (cm nm : Nat) (ms : List Int) (hm : nm = ms.length) (hI : IsI V am cm ms) : Calls Try.prog 9 #[.agg #[.slice a n c, .slice a' n' c', .slice b p f, .int .i64 root, .int .i64 gen], .slice am nm cm] V fun x w' => x = .returned (.tuple #[.agg #[.int .i64 (checkP (rightW bs ns ps root gen) ns (treeS ns ps root gen) ms), .int .i64 (checkH (rightW bs ns ps root gen) ns (treeS ns ps root gen) ms), .int .i64 (checkB (rightW bs ns ps root gen) ns (treeS ns ps root gen) ms)], .int .i64 (checkE (rightW bs ns ps root gen) ns (treeS ns ps root gen) ms)]) ∧ Below V.heap.size V w' :=
 check_any a a' b n c n' c' p f bs ns ps root gen am cm nm ms V x.2.1 x.2.2.1 x.2.2.2.1 hm x.2.2.2.2.1 x.2.2.2.2.2.1 x.2.2.2.2.2.2 hI
end
def BlocksC (w : World) (x : Ending) (w' : World) (l : List Int) (E : Int) : Prop :=
 ∃ q N d, x = .returned (.tuple #[.slice q N d, .int .i64 E]) ∧ N = l.length ∧ IsI w' q d l ∧ From w.heap.size q ∧ Below w.heap.size w w'
theorem blocksC_nil {w w' : World} {E : Int} (hb : Below w.heap.size w w') : BlocksC w (.returned (.tuple #[.slice none 0 0, .int .i64 E])) w' [] E := ⟨none, 0, 0, rfl, rfl, isI_nil _, from_nil _, hb⟩
set_option maxRecDepth 20000 in
set_option maxHeartbeats 4000000 in
theorem blocks_any (a a' b : Option Addr) (n c n' c' p f : Nat) (bs ns : List Bool) (ps : List ByteArray) (root gen : Int) (w : World) (hn : n = bs.length) (hn' : n' = ns.length) (hp : p = ps.length) (hB : IsB w a c bs) (hB' : IsB w a' c' ns) (hP : IsS w b f ps) :
  Calls Try.prog 7 #[.agg #[.slice a n c, .slice a' n' c', .slice b p f, .int .i64 root, .int .i64 gen]] w fun x w' => BlocksC w x w' (blocksR (rightW bs ns ps root gen) ns (treeS ns ps root gen)) (blocksE (rightW bs ns ps root gen) (treeS ns ps root gen)) := by
 obtain ⟨W, hW⟩ : ∃ W, W = w.alloc (.cells #[.slice a n c, .slice a' n' c', .slice b p f, .int .i64 root, .int .i64 gen] 27) := ⟨_, rfl⟩
 have HB : Below w.heap.size w W := by rw [hW]; exact (Below.refl _ _).alloc (Nat.le_refl _) _
 have BW : WoodBox W w.heap.size (.slice a n c) (.slice a' n' c') (.slice b p f) (.int .i64 root) (.int .i64 gen) := by rw [hW]; exact woodBox_new _ _ _ _ _ _ _ rfl
 obtain ⟨t, ht⟩ : ∃ t, t = treeS ns ps root gen := ⟨_, rfl⟩
 obtain ⟨x0, x1, x2, x3, x4⟩ := id (hW ▸ BW)
 have ht10 : ∀ b ∈ t.blocks, 10 ≤ b := by rw [ht]; exact tree_high
 rw [← ht]
 cases hr : rightW bs ns ps root gen with
 | false =>
  have cC := climbed_no a a' b n c n' c' p f bs ns ps root gen W hn hn' hp (hB.below HB) (hB'.below HB) (hP.below HB) hr
  have e1 : blocksE false t = 1 := by unfold blocksE; rw [if_neg (by decide)]
  have e2 : blocksR false ns t = [] := by unfold blocksR; rw [e1, if_neg (by decide)]
  rw [e1, e2]
  clear hn hn' hp hB hB' hP hr ht e1 e2
  go_enter Try.func7, Try.ntmps7
  go_wp2_with (go_at_call 13; rw [← hW]; refine cC.mono ?_; rintro y w1 ⟨rfl, hb⟩; replace HB := Below.tr HB hb; clear x0 x1 x2 x3 x4)
  refine bodyPost_ret (v := .tuple #[.slice none 0 0, .int .i64 1]) (by simp [results, Try.results7, go_sem]) rfl ?_
  exact blocksC_nil HB
 | true =>
  have cC := climbed_yes a a' b n c n' c' p f bs ns ps root gen W hn hn' hp (hB.below HB) (hB'.below HB) (hP.below HB) hr
  obtain ⟨t1, t2⟩ := climbed_tree ns ps root gen
  rw [← ht] at t1 t2
  obtain ⟨-, h24, h2048, -⟩ := (rightA_iff bs ns).1 (rightW_now hr)
  obtain ⟨⟨e, s⟩, hes⟩ : ∃ x, x = climbedS ns ps root gen := ⟨_, rfl⟩
  rw [← hes] at cC t1 t2
  have mn : n' ≤ 2048 := by omega
  have mn10 : 10 ≤ n' := by omega
  cases hb : t.bad with
  | true =>
   have e1 : blocksE true t = 81 := by unfold blocksE; rw [if_pos rfl, if_pos hb]
   have e2 : blocksR true ns t = [] := by unfold blocksR; rw [e1, if_neg (by decide)]
   rw [e1, e2]
   obtain rfl : e = 81 := t2 hb
   clear hn hn' hp hB hB' hP hr ht e1 e2 t1 t2 hes h24 h2048 hb
   go_enter Try.func7, Try.ntmps7
   go_wp2_with (
    (go_at_call 13; rw [← hW]; refine cC.mono ?_; rintro y w1 ⟨h, g, rfl, D, hh, hg, hb⟩; replace HB := Below.tr HB hb; clear x0 x1 x2 x3 x4))
   refine bodyPost_ret (v := .tuple #[.slice none 0 0, .int .i64 81]) (by simp [results, Try.results7, go_sem]) rfl ?_
   exact blocksC_nil HB
  | false =>
   obtain ⟨e0, hA⟩ := t1 hb
   replace e0 : e = 0 := e0
   subst e0
   replace hA : Agree ns.length s t := hA
   have e1 : blocksE true t = 0 := by unfold blocksE; rw [if_pos rfl, if_neg (by rw [hb]; decide)]
   have e2 : blocksR true ns t = heldL s.held n' := by unfold blocksR; rw [e1, if_pos rfl, hn']; exact (heldL_blocks hA.held ht10).symm
   rw [e1]
   obtain ⟨L, hL⟩ : ∃ L, L = blocksR true ns t := ⟨_, rfl⟩
   rw [← hL]
   have HL : Hid (L = heldL s.held n') := hL.trans e2
   clear hn hn' hp hB hB' hP hr ht e1 e2 t1 t2 hes h24 h2048 hb hA hL ht10
   have HT : Hid (heldL s.held 10 = []) := heldL_ten _ (Nat.le_refl _)
   go_enter Try.func7, Try.ntmps7
   go_wp2_with (
    (go_at_call 13; rw [← hW]; refine cC.mono ?_; rintro y w1 ⟨h, g, rfl, D, hh, hg, hb⟩; replace HB := Below.tr HB hb; clear x0 x1 x2 x3 x4))
   have hw1 := HB.size
   have HD : Hid (ClimbAt w1 h g n' (.slice a n c) (.slice a' n' c') (.slice b p f) (.int .i64 root) (.int .i64 gen) s) := D
   clear D
   go_loopw [6, 7] (fun u v wr => ∃ (j q : Nat), j ≤ n' ∧ 10 ≤ j ∧ v = .int .i64 j ∧ q ≤ j ∧ wr.ownsRow w1.heap.size 3 1 u q ((heldL s.held j).map (Value.int .i64)) ∧ Below w1.heap.size w1 wr) (fun _ v _ => n' - (intOf v).toNat)
   case atStart => exact ⟨10, 0, by omega, by omega, rfl, by omega, by rw [HT.out]; exact ⟨rfl, .inl ⟨rfl, rfl⟩⟩, Below.refl _ _⟩
   case round =>
    obtain ⟨j, q, hj, hj10, rfl, hqj, hown, HB2⟩ := hrel
    have D := HD.out.below HB2
    have x8 := D.c8
    have HO : Hid (wr.ownsRow w1.heap.size 3 1 u6 q ((heldL s.held j).map (Value.int .i64))) := hown
    clear hown
    by_cases hlt : j < n'
    ·
     have hlt' : (j : Int) < n' := by omega
     obtain ⟨x, hx⟩ : ∃ x, Hid (s.held[j]? = some x) := get_some (by rw [D.len]; exact hlt)
     obtain ⟨hc, -⟩ := D.row.cell hx.out
     have hst : Hid (heldL s.held (j + 1) = if x = true then heldL s.held j ++ [(j : Int)] else heldL s.held j) := by
      show _ = _
      rw [heldL_step, atB_some hx.out]
      by_cases hx2 : x = true
      ·
       rw [if_pos ⟨hj10, hx2⟩, if_pos hx2]
      ·
       rw [if_neg (fun hh => hx2 hh.2), if_neg hx2]
     clear hx D
     cases x with
     | false =>
      have hfin : Hid (wr.ownsRow w1.heap.size 3 1 u6 q ((heldL s.held (j + 1)).map (Value.int .i64))) := by rw [hst.out, if_neg (by decide)]; exact HO.out
      clear HO hst
      go_wp2
      go_roundw
      case rel => exact ⟨j + 1, q, by omega, by omega, by go_num, by omega, hfin.out, HB2⟩
      case measure => simp [intOf]; omega
     | true =>
      obtain ⟨g2, cap2, U, hrun, hown2, hgr, hat, hge, hlt2⟩ := push_Zl wr w1.heap.size u6 q (heldL s.held j) j HO.out HB2.size (by omega)
      have HB3 : Below w1.heap.size w1 U := Below.turns (P := fun k => w1.heap.size ≤ k) HB2 (((Turns.refl _ _).alloc _).grown hgr (fun k hk => (HO.out.lt k hk).1)) (fun k hk => hk)
      have hfin : Hid (U.ownsRow w1.heap.size 3 1 (.slice (some ⟨g2, 0, none⟩) (q + 1) cap2) (q + 1) ((heldL s.held (j + 1)).map (Value.int .i64)) ∧ Below w1.heap.size w1 U) := by rw [hst.out, if_pos rfl]; exact ⟨hown2, HB3⟩
      clear HO hst hown2 HB3 hgr hat hge hlt2
      go_wp2_with (at_builtin; refine Lib.wpList_append_run _ rfl _ _ _ _ rfl _ _ rfl rfl _ _ hrun ?_)
      go_roundw
      case rel => exact ⟨j + 1, q + 1, by omega, by omega, by go_num, by omega, hfin.out.1, hfin.out.2⟩
      case measure => simp [intOf]; omega
    ·
     obtain rfl : n' = j := by omega
     have hj0 : ¬ (n' : Int) < n' := by omega
     clear D
     go_wp2
     obtain ⟨q1, d1, he, hq, hI, hF⟩ := owns_I HO.out
     subst he
     refine bodyPost_ret (v := .tuple #[.slice q1 q d1, .int .i64 0]) (by simp [results, Try.results7, go_sem]) rfl ?_
     exact ⟨q1, q, d1, rfl, by rw [HL.out]; exact hq, by rw [HL.out]; exact hI, hF.mono (by omega), Below.tr HB HB2⟩
set_option maxRecDepth 20000 in
set_option maxHeartbeats 2000000 in
theorem refIn_any (a : Option Addr) (c n : Nat) (l : List Int) (x : Int) (w : World) (hn : n = l.length) (hI : IsI w a c l) :
  Calls Try.prog 15 #[.slice a n c, .int .i64 x] w fun e w' => e = .returned (.bool (decide (x ∈ l))) ∧ Below w.heap.size w w' := by
 have mn : n ≤ 9223372036854775807 := by rw [hn]; exact Nat.le_trans hI.1 hI.2.1
 obtain ⟨r, hr⟩ : ∃ r, r = decide (x ∈ l) := ⟨_, rfl⟩
 rw [← hr]
 have HR : Hid (r = decide (x ∈ l)) := hr
 have EN : Hid (n = l.length) := hn
 have RI : Hid (IsI w a c l) := hI
 clear hr hn hI
 go_enter Try.func15, Try.ntmps15
 go_wp2
 go_loopw [9] (fun v wr => ∃ j : Nat, j ≤ n ∧ v = .int .i64 j ∧ (∀ i y, i < j → l[i]? = some y → y ≠ x) ∧ Below w.heap.size w wr) (fun v _ => n - (intOf v).toNat)
 case atStart => exact ⟨0, by omega, rfl, fun i q hi => by omega, Below.refl _ _⟩
 case round =>
  obtain ⟨j, hj, rfl, hA, HB⟩ := hrel
  have HA : Hid (∀ i y, i < j → l[i]? = some y → y ≠ x) := hA
  clear hA
  by_cases hlt : j < n
  ·
   have hlt' : (j : Int) < n := by omega
   obtain ⟨y, hp⟩ : ∃ x, Hid (l[j]? = some x) := ⟨_, List.getElem?_eq_getElem (by rw [← EN.out]; exact hlt)⟩
   obtain ⟨b, o, rfl, -, hc0⟩ := RI.out.2.2 j y hp.out
   have z0 := cell_below HB hc0
   clear hc0
   by_cases hk : y = x
   ·
    subst hk
    have hk' : (y == y) = true := by simp
    have hf : r = true := by rw [HR.out]; exact decide_eq_true (List.mem_of_getElem? hp.out)
    subst hf
    go_wp2
    go_ret
    exact ⟨rfl, HB⟩
   ·
    have hk' : (y == x) = false := by simpa using hk
    go_wp2
    go_roundw
    case rel =>
     refine ⟨j + 1, by omega, by go_num, fun i q hi hq => ?_, HB⟩
     by_cases hij : i = j
     ·
      subst hij
      rw [hp.out] at hq
      cases hq
      exact hk
     ·
      exact HA.out i q (by omega) hq
    case measure => simp [intOf]; omega
  ·
   obtain rfl : n = j := by omega
   have hj0 : ¬ (n : Int) < n := by omega
   have hf : r = false := by
    rw [HR.out]
    refine decide_eq_false fun h => ?_
    obtain ⟨i, hi⟩ := List.mem_iff_getElem?.1 h
    exact HA.out i x (by rw [EN.out]; exact (List.getElem?_eq_some_iff.1 hi).1) hi rfl
   subst hf
   go_wp2
   go_ret
   exact ⟨rfl, HB⟩
def BlocksO (w : World) (x : Ending) (w' : World) (l : List Int) (E : Int) : Prop :=
 ∃ u q, x = .returned (.tuple #[u, .int .i64 E]) ∧ w'.ownsRow w.heap.size 3 1 u q (l.map (Value.int .i64)) ∧ Below w.heap.size w w'
theorem blocksO_nil {w w' : World} {E : Int} (hb : Below w.heap.size w w') : BlocksO w (.returned (.tuple #[.slice none 0 0, .int .i64 E])) w' [] E := ⟨_, 0, rfl, ⟨rfl, .inl ⟨rfl, rfl⟩⟩, hb⟩
theorem BlocksO.told {w : World} {x : Ending} {w' : World} {l : List Int} {E : Int} (h : BlocksO w x w' l E) : BlocksC w x w' l E := by
 obtain ⟨u, q, rfl, hown, hb⟩ := h
 obtain ⟨q1, d1, rfl, hq, hI, hF⟩ := owns_I hown
 exact ⟨q1, q, d1, rfl, hq, hI, hF, hb⟩
theorem owns_empty (w : World) : (w.alloc (.cells #[] 3)).ownsRow w.heap.size 3 1 (.slice (some ⟨w.heap.size, 0, none⟩) 0 0) 0 (([] : List Int).map (Value.int .i64)) := by
 refine ⟨rfl, .inr ⟨w.heap.size, 0, #[], rfl, Nat.le_refl _, heap_new w _, Nat.le_refl _, Nat.zero_le _, by simp, by simp⟩⟩
theorem owns_lower {w : World} {B B' : Nat} {e : TypeId} {s : Nat} {v : Value} {n : Nat} {xs : List Value} (h : w.ownsRow B e s v n xs) (hb : B' ≤ B) : w.ownsRow B' e s v n xs := by
 obtain ⟨h1, h2⟩ := h
 refine ⟨h1, ?_⟩
 rcases h2 with h2 | ⟨g, cap, cur, hv, hg, r⟩
 ·
  exact .inl h2
 ·
  exact .inr ⟨g, cap, cur, hv, Nat.le_trans hb hg, r⟩
set_option maxRecDepth 20000 in
set_option maxHeartbeats 4000000 in
theorem refBlocks_any (a a' b : Option Addr) (n c n' c' p f : Nat) (bs ns : List Bool) (ps : List ByteArray) (root gen : Int) (w : World) (hn : n = bs.length) (hn' : n' = ns.length) (hp : p = ps.length) (hB : IsB w a c bs) (hB' : IsB w a' c' ns) (hP : IsS w b f ps) :
  Calls Try.prog 8 #[.agg #[.slice a n c, .slice a' n' c', .slice b p f, .int .i64 root, .int .i64 gen]] w fun x w' => BlocksO w x w' (blocksR (rightW bs ns ps root gen) ns (treeS ns ps root gen)) (blocksE (rightW bs ns ps root gen) (treeS ns ps root gen)) := by
 obtain ⟨W, hW⟩ : ∃ W, W = w.alloc (.cells #[.slice a n c, .slice a' n' c', .slice b p f, .int .i64 root, .int .i64 gen] 27) := ⟨_, rfl⟩
 have HB : Below w.heap.size w W := by rw [hW]; exact (Below.refl _ _).alloc (Nat.le_refl _) _
 have BW : WoodBox W w.heap.size (.slice a n c) (.slice a' n' c') (.slice b p f) (.int .i64 root) (.int .i64 gen) := by rw [hW]; exact woodBox_new _ _ _ _ _ _ _ rfl
 have cR := refRightW_any a a' b n c n' c' p f bs ns ps root gen W hn hn' hp (hB.below HB) (hB'.below HB) (hP.below HB)
 have cT : ∀ V, Below w.heap.size w V → Calls Try.prog 14 #[.agg #[.slice a n c, .slice a' n' c', .slice b p f, .int .i64 root, .int .i64 gen]] V fun x w' => ∃ u1 u2, x = .returned (.pointer (some ⟨V.heap.size + 1, 0, none⟩)) ∧ TreeAt w' (V.heap.size + 1) (V.heap.size + 2) u1 u2 (treeS ns ps root gen) ∧ Below V.heap.size V w' := fun V hV => tree_any a a' b n c n' c' p f ns ps root gen V hn' hp (hB'.below hV) (hP.below hV)
 obtain ⟨t, ht⟩ : ∃ t, t = treeS ns ps root gen := ⟨_, rfl⟩
 rw [← ht] at cT ⊢
 obtain ⟨x0, x1, x2, x3, x4⟩ := id (hW ▸ BW)
 cases hr : rightW bs ns ps root gen with
 | false =>
  rw [hr] at cR
  have e1 : blocksE false t = 1 := by unfold blocksE; rw [if_neg (by decide)]
  have e2 : blocksR false ns t = [] := by unfold blocksR; rw [e1, if_neg (by decide)]
  rw [e1, e2]
  clear hn hn' hp hB hB' hP hr ht e1 e2
  go_enter Try.func8, Try.ntmps8
  go_wp2_with (
   (go_at_call 11; rw [← hW]; refine cR.mono ?_; rintro y w1 ⟨rfl, hb⟩; replace HB := Below.tr HB hb; replace BW := BW.below hb; clear x0 x1 x2 x3 x4; obtain ⟨x0, x1, x2, x3, x4⟩ := id BW; clear hb))
  refine bodyPost_ret (v := .tuple #[.slice none 0 0, .int .i64 1]) (by simp [results, Try.results8, go_sem]) rfl ?_
  exact blocksO_nil HB
 | true =>
  rw [hr] at cR
  obtain ⟨-, h24, h2048, -⟩ := (rightA_iff bs ns).1 (rightW_now hr)
  have mn : n' ≤ 2048 := by omega
  cases hb : t.bad with
  | true =>
   have e1 : blocksE true t = 81 := by unfold blocksE; rw [if_pos rfl, if_pos hb]
   have e2 : blocksR true ns t = [] := by unfold blocksR; rw [e1, if_neg (by decide)]
   rw [e1, e2]
   have Hb : Hid (t.bad = true) := hb
   clear hn hn' hp hB hB' hP hr ht e1 e2 h24 h2048 hb
   go_enter Try.func8, Try.ntmps8
   go_wp2_with (first
    | (go_at_call 11; rw [← hW]; refine cR.mono ?_; rintro y w1 ⟨rfl, hb⟩; replace HB := Below.tr HB hb; replace BW := BW.below hb; clear x0 x1 x2 x3 x4; obtain ⟨x0, x1, x2, x3, x4⟩ := id BW; clear hb)
    | (go_at_call 14; refine (cT _ HB).mono ?_; rintro y w2 ⟨u1, u2, rfl, D, hb⟩; replace HB := Below.tr HB hb; obtain ⟨⟨q0, q1, q2, q3⟩, -⟩ := id D.box; rw [Hb.out] at q3; clear x0 x1 x2 x3 x4))
   refine bodyPost_ret (v := .tuple #[.slice none 0 0, .int .i64 81]) (by simp [results, Try.results8, go_sem]) rfl ?_
   exact blocksO_nil HB
  | false =>
   have e1 : blocksE true t = 0 := by unfold blocksE; rw [if_pos rfl, if_neg (by rw [hb]; decide)]
   have e2 : blocksR true ns t = blocksL n' t.blocks := by unfold blocksR; rw [e1, if_pos rfl, hn']
   rw [e1, e2]
   have Hb : Hid (t.bad = false) := hb
   have HT : Hid (blocksL 0 t.blocks = []) := rfl
   clear hn hn' hp hB hB' hP hr ht e1 e2 h24 h2048 hb
   go_enter Try.func8, Try.ntmps8
   go_wp2_with (first
    | (go_at_call 11; rw [← hW]; refine cR.mono ?_; rintro y w1 ⟨rfl, hb⟩; replace HB := Below.tr HB hb; replace BW := BW.below hb; clear x0 x1 x2 x3 x4; obtain ⟨x0, x1, x2, x3, x4⟩ := id BW; clear hb)
    | (go_at_call 14; refine (cT _ HB).mono ?_; rintro y w2 ⟨u1, u2, rfl, D, hb⟩; replace HB := Below.tr HB hb; replace BW := BW.below hb; clear x0 x1 x2 x3 x4; obtain ⟨x0, x1, x2, x3, x4⟩ := id BW; obtain ⟨⟨q0, q1, q2, q3⟩, -⟩ := id D.box; rw [Hb.out] at q3; have x1' := cell_alloc x1 (.cells #[] 3)))
   have hw2 := HB.size
   have HD : Hid (TreeAt w2 (w1.heap.size + 1) (w1.heap.size + 2) u1 u2 t) := D
   clear D x0 x1 x2 x3 x4 q0 q1 q2 q3 x1'
   have O0 := owns_empty w2
   have A0 : Below w2.heap.size w2 (w2.alloc (.cells #[] 3)) := (Below.refl _ _).alloc (Nat.le_refl _) _
   go_loopw [5, 21] (fun u v wr => ∃ (j q : Nat), j ≤ n' ∧ v = .int .i64 j ∧ q ≤ j ∧ wr.ownsRow w2.heap.size 3 1 u q ((blocksL j t.blocks).map (Value.int .i64)) ∧ Below w2.heap.size w2 wr) (fun _ v _ => n' - (intOf v).toNat)
   case atStart => exact ⟨0, 0, by omega, rfl, by omega, by rw [HT.out]; exact O0, A0⟩
   case round =>
    clear O0 A0
    obtain ⟨j, q, hj, rfl, hqj, hown, HB2⟩ := hrel
    have D := HD.out.below HB2
    obtain ⟨bq, dq, he2, hq2, hI2, -⟩ := owns_I D.r2
    have x1 := D.box.1.2.1
    subst he2
    have HO : Hid (wr.ownsRow w2.heap.size 3 1 u5 q ((blocksL j t.blocks).map (Value.int .i64))) := hown
    clear hown
    by_cases hlt : j < n'
    ·
     have hlt' : (j : Int) < n' := by omega
     have cI := refIn_any bq dq t.blocks.length t.blocks j wr rfl hI2
     have hst := blocksL_step (l := t.blocks) (j := j)
     have hdc : decide ((j : Int) ∈ t.blocks) = t.blocks.contains (j : Int) := by rw [Bool.eq_iff_iff]; simp
     rw [hdc] at cI
     obtain ⟨x, hx⟩ : ∃ x, x = t.blocks.contains (j : Int) := ⟨_, rfl⟩
     rw [← hx] at cI hst
     have HS : Hid (blocksL (j + 1) t.blocks = if x = true then blocksL j t.blocks ++ [(j : Int)] else blocksL j t.blocks) := hst
     obtain ⟨kt, hkt⟩ : ∃ k, k = t.blocks.length := ⟨_, rfl⟩
     rw [← hkt] at cI x1
     clear hx D hst hdc hI2 hq2 hkt
     cases x with
     | false =>
      have hfin : Hid (wr.ownsRow w2.heap.size 3 1 u5 q ((blocksL (j + 1) t.blocks).map (Value.int .i64))) := by rw [HS.out, if_neg (by decide)]; exact HO.out
      clear HO HS
      go_wp2_with (go_at_call 15; refine cI.mono ?_; rintro y w3 ⟨rfl, hb3⟩; have HB3 := Below.tr HB2 hb3; have HF3 : Hid (w3.ownsRow w2.heap.size 3 1 u5 q ((blocksL (j + 1) t.blocks).map (Value.int .i64))) := (Turns.of_below (P := fun _ => False) hb3).owns hfin.out (fun _ _ x => x))
      go_roundw
      case rel => exact ⟨j + 1, q, by omega, by go_num, by omega, HF3.out, HB3⟩
      case measure => simp [intOf]; omega
     | true =>
      go_wp2_with (first
       | (go_at_call 15; refine cI.mono ?_; rintro y w3 ⟨rfl, hb3⟩; have HB3 := Below.tr HB2 hb3; have HO3 : w3.ownsRow w2.heap.size 3 1 u5 q ((blocksL j t.blocks).map (Value.int .i64)) := (Turns.of_below (P := fun _ => False) hb3).owns HO.out (fun _ _ x => x); obtain ⟨g2, cap2, U, hrun, hown2, hgr, hat, hge, hlt2⟩ := push_Zl w3 w2.heap.size u5 q (blocksL j t.blocks) j HO3 HB3.size (by omega); have HB4 : Below w2.heap.size w2 U := Below.turns (P := fun k => w2.heap.size ≤ k) HB3 (((Turns.refl _ _).alloc _).grown hgr (fun k hk => (HO3.lt k hk).1)) (fun k hk => hk); have hfin : Hid (U.ownsRow w2.heap.size 3 1 (.slice (some ⟨g2, 0, none⟩) (q + 1) cap2) (q + 1) ((blocksL (j + 1) t.blocks).map (Value.int .i64)) ∧ Below w2.heap.size w2 U) := (by rw [HS.out, if_pos rfl]; exact ⟨hown2, HB4⟩); clear HO HS hown2 HB4 hgr hat hge hlt2 HO3)
       | (at_builtin; refine Lib.wpList_append_run _ rfl _ _ _ _ rfl _ _ rfl rfl _ _ hrun ?_))
      go_roundw
      case rel => exact ⟨j + 1, q + 1, by omega, by go_num, by omega, hfin.out.1, hfin.out.2⟩
      case measure => simp [intOf]; omega
    ·
     obtain rfl : n' = j := by omega
     have hj0 : ¬ (n' : Int) < n' := by omega
     clear D
     go_wp2
     refine bodyPost_ret (v := .tuple #[u5, .int .i64 0]) (by simp [results, Try.results8, go_sem]) rfl ?_
     exact ⟨u5, q, rfl, owns_lower HO.out (by omega), Below.tr HB HB2⟩
structure LocR (lo : Nat) (V1 V : World) (u : Value) : Prop where
 st : Turns (fun k => k < lo) V1 V
 fr : ∀ g, u.ownBlock = some g → g < lo ∨ V1.heap.size ≤ g
theorem LocR.below {lo : Nat} {V1 V V' : World} {u : Value} (l : LocR lo V1 V u) (hb : Below V.heap.size V V') : LocR lo V1 V' u := ⟨l.st.tr hb, l.fr⟩
theorem LocR.push {lo : Nat} {V1 V V' : World} {u : Value} {o : Obj} {g n cap : Nat} (l : LocR lo V1 V u) (hg : (V.alloc o).grownBy V' u.ownBlock) (hat : u.ownBlock = some g ∨ g = V.heap.size + 1) : LocR lo V1 V' (.slice (some ⟨g, 0, none⟩) n cap) := by
 have hs := l.st.size
 have t1 : Turns (fun k => u.ownBlock = some k) V V' := ((Turns.refl _ _).alloc _).grown hg (fun k hk => hk)
 refine ⟨⟨t1.os.trans l.st.os, t1.tape.trans l.st.tape, t1.output.trans l.st.output, Nat.le_trans hs t1.size, fun k hk hp => ?_⟩, fun k hk => ?_⟩
 ·
  refine (t1.block k (by omega) (fun e => ?_)).trans (l.st.block k hk hp)
  rcases l.fr k e with e | e
  ·
   exact hp e
  ·
   omega
 ·
  simp [Value.ownBlock] at hk
  subst hk
  rcases hat with e | e
  ·
   exact l.fr g e
  ·
   exact .inr (by omega)
theorem owns_sees {w : World} {B : Nat} {e : TypeId} {s : Nat} {v : Value} {n : Nat} {xs : List Value} (h : w.ownsRow B e s v n xs) : ∃ a c, v = .slice a n c := by
 rcases h.2 with ⟨h1, h2⟩ | ⟨g, cap, cur, h1, _⟩
 ·
  exact ⟨none, 0, by rw [h1, h2]⟩
 ·
  exact ⟨_, _, h1⟩
theorem owns_few {w : World} {B : Nat} {e : TypeId} {s : Nat} {v : Value} {n : Nat} {xs : List Value} (h : w.ownsRow B e s v n xs) : n ≤ maxLen := by
 rcases h.2 with ⟨h1, h2⟩ | ⟨g, cap, cur, h1, hg, hh, hnc, hcm, _⟩
 ·
  omega
 ·
  omega
set_option maxRecDepth 20000 in
set_option maxHeartbeats 4000000 in
theorem refCheck_any (a a' b : Option Addr) (n c n' c' p f : Nat) (bs ns : List Bool) (ps : List ByteArray) (root gen : Int) (am : Option Addr) (cm nm : Nat) (ms : List Int) (w : World) (hn : n = bs.length) (hn' : n' = ns.length) (hp : p = ps.length) (hm : nm = ms.length) (hB : IsB w a c bs) (hB' : IsB w a' c' ns) (hP : IsS w b f ps) (hI : IsI w am cm ms) (hm20 : nm ≤ 1000) :
  Calls Try.prog 10 #[.agg #[.slice a n c, .slice a' n' c', .slice b p f, .int .i64 root, .int .i64 gen], .slice am nm cm] w fun x w' => x = .returned (.tuple #[.agg #[.int .i64 (checkP (rightW bs ns ps root gen) ns (treeS ns ps root gen) ms), .int .i64 (checkH (rightW bs ns ps root gen) ns (treeS ns ps root gen) ms), .int .i64 (checkB (rightW bs ns ps root gen) ns (treeS ns ps root gen) ms)], .int .i64 (checkE (rightW bs ns ps root gen) ns (treeS ns ps root gen) ms)]) ∧ Below w.heap.size w w' := by
 obtain ⟨W, hW⟩ : ∃ W, W = (w.alloc (.cells #[.slice a n c, .slice a' n' c', .slice b p f, .int .i64 root, .int .i64 gen] 27)).alloc (.cells #[.int .i64 0, .int .i64 0, .int .i64 0] 35) := ⟨_, rfl⟩
 have HB : Below w.heap.size w W := by rw [hW]; exact ((Below.refl _ _).alloc (Nat.le_refl _) _).alloc (by simp) _
 have BW : WoodBox W w.heap.size (.slice a n c) (.slice a' n' c') (.slice b p f) (.int .i64 root) (.int .i64 gen) := by rw [hW]; exact (woodBox_new _ _ _ _ _ _ _ rfl).below ((Below.refl _ _).alloc (Nat.le_refl _) _)
 have BR : Box3 W (w.heap.size + 1) (.int .i64 0) (.int .i64 0) (.int .i64 0) := by rw [hW]; have := box3_new (w.alloc (.cells #[.slice a n c, .slice a' n' c', .slice b p f, .int .i64 root, .int .i64 gen] 27)) (.int .i64 0) (.int .i64 0) (.int .i64 0) 35; simpa using this
 have hWs : W.heap.size = w.heap.size + 2 := by rw [hW]; simp
 have cL := refBlocks_any a a' b n c n' c' p f bs ns ps root gen W hn hn' hp (hB.below HB) (hB'.below HB) (hP.below HB)
 have cT : ∀ V, Below w.heap.size w V → Calls Try.prog 14 #[.agg #[.slice a n c, .slice a' n' c', .slice b p f, .int .i64 root, .int .i64 gen]] V fun x w' => ∃ u1 u2, x = .returned (.pointer (some ⟨V.heap.size + 1, 0, none⟩)) ∧ TreeAt w' (V.heap.size + 1) (V.heap.size + 2) u1 u2 (treeS ns ps root gen) ∧ Below V.heap.size V w' := fun V hV => tree_any a a' b n c n' c' p f ns ps root gen V hn' hp (hB'.below hV) (hP.below hV)
 obtain ⟨t, ht⟩ : ∃ t, t = treeS ns ps root gen := ⟨_, rfl⟩
 rw [← ht] at cT cL ⊢
 obtain ⟨x0, x1, x2, x3, x4⟩ := id (hW ▸ BW)
 obtain ⟨⟨r0, r1, r2⟩, f0, f1, f2⟩ := id (hW ▸ BR)
 obtain ⟨r, hr⟩ : ∃ r, r = rightW bs ns ps root gen := ⟨_, rfl⟩
 rw [← hr] at cL ⊢
 obtain ⟨rE, hE⟩ : ∃ x, x = checkE r ns t ms := ⟨_, rfl⟩
 obtain ⟨rP, hP'⟩ : ∃ x, x = checkP r ns t ms := ⟨_, rfl⟩
 obtain ⟨rH, hH⟩ : ∃ x, x = checkH r ns t ms := ⟨_, rfl⟩
 obtain ⟨rB, hBB⟩ : ∃ x, x = checkB r ns t ms := ⟨_, rfl⟩
 rw [← hE, ← hP', ← hH, ← hBB]
 have hbad : ∀ e, e ≠ 0 → checkE r ns t ms = e → Hid (rP = 0 ∧ rH = 0 ∧ rB = 0 ∧ rE = e) := fun e he h81 => by
  have hz := check_err h81 he
  exact ⟨hP'.trans hz.1, hH.trans hz.2.1, hBB.trans hz.2.2, hE.trans h81⟩
 obtain ⟨eB, hEB⟩ : ∃ e, e = blocksE r t := ⟨_, rfl⟩
 obtain ⟨LB, hLB⟩ : ∃ l, l = blocksR r ns t := ⟨_, rfl⟩
 rw [← hEB, ← hLB] at cL
 by_cases he0 : eB = 0
 ·
  subst he0
  have hrt : r = true ∧ t.bad = false := by
   unfold blocksE at hEB
   cases r with
   | false => simp at hEB
   | true => cases hb : t.bad with
    | false => exact ⟨rfl, rfl⟩
    | true => rw [hb] at hEB; simp at hEB
  have hLB' : LB = blocksL n' t.blocks := by rw [hLB]; unfold blocksR; rw [← hEB, if_pos rfl, hn']
  obtain ⟨hr1, hb⟩ := hrt
  rw [hr1] at hr hbad hE hP' hH hBB
  obtain ⟨-, h24, h2048, -⟩ := (rightA_iff bs ns).1 (rightW_now hr.symm)
  have mn : n' ≤ 2048 := by omega
  have hpos : checkOK ns t ms = true → Hid (rP = (t.pairs.length : Int) ∧ rH = t.height ∧ rB = (t.blocks.length : Int) ∧ rE = 0) := fun hok => by
   have h0 := check_ok hb hok
   refine ⟨hP'.trans ?_, hH.trans ?_, hBB.trans ?_, hE.trans h0⟩
   ·
    unfold checkP; rw [h0, if_pos rfl]
   ·
    unfold checkH; rw [h0, if_pos rfl]
   ·
    unfold checkB; rw [h0, if_pos rfl]
  have hneg : checkOK ns t ms = false → Hid (rP = 0 ∧ rH = 0 ∧ rB = 0 ∧ rE = 81) := fun hno => hbad 81 (by decide) (check_not hno)
  obtain ⟨M, hM⟩ : ∃ M, M = moreL n' LB ms := ⟨_, rfl⟩
  have HC : Hid (∀ l, M = some l → checkOK ns t ms = justL ns l) := fun l hl => by unfold checkOK; rw [← hn', ← hLB', ← hM, hl]
  have HC0 : Hid (M = none → checkOK ns t ms = false) := fun hl => by unfold checkOK; rw [← hn', ← hLB', ← hM, hl]
  have HM : Hid (M = moreL n' LB (ms.drop 0)) := hM
  have HPOS : Hid (checkOK ns t ms = true → Hid (rP = (t.pairs.length : Int) ∧ rH = t.height ∧ rB = (t.blocks.length : Int) ∧ rE = 0)) := hpos
  have HNEG : Hid (checkOK ns t ms = false → Hid (rP = 0 ∧ rH = 0 ∧ rB = 0 ∧ rE = 81)) := hneg
  have EM : Hid (nm = ms.length) := hm
  have EN : Hid (n' = ns.length) := hn'
  have RI : Hid (IsI w am cm ms) := hI
  have RN : Hid (IsB w a' c' ns) := hB'
  have hLl : LB.length ≤ n' := by rw [hLB']; unfold blocksL; rw [List.length_map]; exact Nat.le_trans (List.length_filter_le _ _) (by simp)
  clear hn hn' hp hB hB' hP hm hI hr ht hE hP' hH hBB hbad hEB hLB h24 h2048 hb hr1 hLB' hpos hneg hM
  have HBR : Hid (Box3 W (w.heap.size + 1) (.int .i64 0) (.int .i64 0) (.int .i64 0) ∧ WoodBox W w.heap.size (.slice a n c) (.slice a' n' c') (.slice b p f) (.int .i64 root) (.int .i64 gen)) := ⟨BR, BW⟩
  have HB0 : Hid (Below w.heap.size w W) := HB
  go_enter Try.func10, Try.ntmps10
  go_wp2_with (first
   | (go_at_call 8; rw [← hW]; refine cL.mono ?_; rintro y w1 ⟨u, q, rfl, hown, hb⟩; replace HB := Below.tr HB hb; have HW1 := hb; replace BR := BR.below hb; replace BW := BW.below hb; clear x0 x1 x2 x3 x4 r0 r1 r2 f0 f1 f2; obtain ⟨x0, x1, x2, x3, x4⟩ := id BW; obtain ⟨⟨r0, r1, r2⟩, f0, f1, f2⟩ := id BR; clear hb)
   | (go_at_call 14; refine (cT _ HB).mono ?_; rintro y w2 ⟨u1, u2, rfl, D, hb⟩; have hlo := hb.size; replace HB := Below.tr HB hb; replace HW1 := Below.tr HW1 hb; have hown2 : w2.ownsRow W.heap.size 3 1 u q (LB.map (Value.int .i64)) := (Turns.of_below (P := fun _ => False) hb).owns hown (fun _ _ x => x); have hfr : ∀ g, u.ownBlock = some g → g < w1.heap.size := (fun g hg => (hown.lt g hg).2); clear x0 x1 x2 x3 x4 r0 r1 r2 f0 f1 f2 hb hown))
  have HD : Hid (TreeAt w2 (w1.heap.size + 1) (w1.heap.size + 2) u1 u2 t) := D
  have hqL : Hid (q = LB.length) := by have := hown2.1; rw [List.length_map, Nat.mul_one] at this; exact this.symm
  have hq0 : q ≤ 2048 := by have := hqL.out; omega
  have LO0 : LocR w1.heap.size w2 w2 u := ⟨Turns.refl _ _, fun g hg => .inl (hfr g hg)⟩
  clear D BR BW hfr hqL
  go_loopw [6, 26] (fun u v wr => ∃ (j q : Nat) (L : List Int), j ≤ nm ∧ v = .int .i64 j ∧ q ≤ 2048 + j ∧ M = moreL n' L (ms.drop j) ∧ wr.ownsRow W.heap.size 3 1 u q (L.map (Value.int .i64)) ∧ LocR w1.heap.size w2 wr u ∧ Below W.heap.size W wr) (fun _ v _ => nm - (intOf v).toNat)
  case atStart => exact ⟨0, q, LB, by omega, rfl, by omega, HM.out, hown2, LO0, HW1⟩
  case round =>
   clear hown2 LO0 HW1 HM
   obtain ⟨j, q, L, hj, rfl, hqj, hMj, hown, LO, HB2⟩ := hrel
   have HMj : Hid (M = moreL n' L (ms.drop j)) := hMj
   have HO : Hid (wr.ownsRow W.heap.size 3 1 u6 q (L.map (Value.int .i64))) := hown
   clear hMj hown
   have HB := Below.tr HB0.out HB2
   have BR := HBR.out.1.below HB2
   obtain ⟨x0, x1, x2, x3, x4⟩ := HBR.out.2.below HB2
   obtain ⟨⟨r0, r1, r2⟩, f0, f1, f2⟩ := id BR
   obtain ⟨ua, uc, hu, huq, hIL, -⟩ := owns_I HO.out
   subst hu
   have HIL : Hid (IsI wr ua uc L ∧ q = L.length) := ⟨hIL, huq⟩
   clear hIL huq
   by_cases hlt : j < nm
   ·
    have hlt' : (j : Int) < nm := by omega
    obtain ⟨x, hx⟩ : ∃ x, Hid (ms[j]? = some x) := get_some (by rw [← EM.out]; exact hlt)
    obtain ⟨b1, o1, rfl, -, hc⟩ := RI.out.2.2 j x hx.out
    have z := cell_below HB hc
    have hd : Hid (ms.drop j = x :: ms.drop (j + 1)) := by
     obtain ⟨hl, hv⟩ := List.getElem?_eq_some_iff.1 hx.out
     show _ = _
     rw [List.drop_eq_getElem_cons hl, hv]
    clear hc hx
    by_cases h10 : x < 10
    ·
     have HF := HNEG.out (HC0.out (by rw [HMj.out, hd.out, moreL, if_pos (.inl h10)]))
     go_wp2
     obtain ⟨z0, z1, z2⟩ := set3_cells (v0 := .int .i64 0) (v1 := .int .i64 0) (v2 := .int .i64 0) r0 r1 r2
     refine bodyPost_ret (v := .tuple #[.agg #[.int .i64 0, .int .i64 0, .int .i64 0], .int .i64 81]) (by simp [results, Try.results10, go_sem, z0, z1, z2]) rfl ?_
     rw [HF.out.1, HF.out.2.1, HF.out.2.2.1, HF.out.2.2.2]
     exact ⟨rfl, below_set3 HB (by omega)⟩
    ·
     by_cases hxn : (n' : Int) ≤ x
     ·
      have HF := HNEG.out (HC0.out (by rw [HMj.out, hd.out, moreL, if_pos (.inr (.inl hxn))]))
      go_wp2
      obtain ⟨z0, z1, z2⟩ := set3_cells (v0 := .int .i64 0) (v1 := .int .i64 0) (v2 := .int .i64 0) r0 r1 r2
      refine bodyPost_ret (v := .tuple #[.agg #[.int .i64 0, .int .i64 0, .int .i64 0], .int .i64 81]) (by simp [results, Try.results10, go_sem, z0, z1, z2]) rfl ?_
      rw [HF.out.1, HF.out.2.1, HF.out.2.2.1, HF.out.2.2.2]
      exact ⟨rfl, below_set3 HB (by omega)⟩
     ·
      have cI := refIn_any ua uc q L x wr HIL.out.2 HIL.out.1
      by_cases hin : x ∈ L
      ·
       have HF := HNEG.out (HC0.out (by rw [HMj.out, hd.out, moreL, if_pos (.inr (.inr hin))]))
       rw [decide_eq_true hin] at cI
       clear hin
       go_wp2_with (go_at_call 15; refine cI.mono ?_; rintro y w3 ⟨rfl, hb3⟩; replace HB := Below.tr HB hb3; replace BR := BR.below hb3; clear x0 x1 x2 x3 x4 r0 r1 r2 f0 f1 f2; obtain ⟨⟨r0, r1, r2⟩, f0, f1, f2⟩ := id BR)
       obtain ⟨z0, z1, z2⟩ := set3_cells (v0 := .int .i64 0) (v1 := .int .i64 0) (v2 := .int .i64 0) r0 r1 r2
       refine bodyPost_ret (v := .tuple #[.agg #[.int .i64 0, .int .i64 0, .int .i64 0], .int .i64 81]) (by simp [results, Try.results10, go_sem, z0, z1, z2]) rfl ?_
       rw [HF.out.1, HF.out.2.1, HF.out.2.2.1, HF.out.2.2.2]
       exact ⟨rfl, below_set3 HB (by omega)⟩
      ·
       have HMn : Hid (M = moreL n' (L ++ [x]) (ms.drop (j + 1))) := by
        show _ = _
        rw [HMj.out, hd.out, moreL, if_neg (fun hh => by rcases hh with e | e | e; exact h10 e; exact hxn e; exact hin e)]
       rw [decide_eq_false hin] at cI
       clear hin HMj hd HIL
       go_wp2_with (first
        | (go_at_call 15; refine cI.mono ?_; rintro y w3 ⟨rfl, hb3⟩; have HB3 := Below.tr HB2 hb3; have LO3 := LO.below hb3; have HO3 : w3.ownsRow W.heap.size 3 1 (.slice ua q uc) q (L.map (Value.int .i64)) := (Turns.of_below (P := fun _ => False) hb3).owns HO.out (fun _ _ x => x); obtain ⟨g2, cap2, U, hrun, hown2, hgr, hat, hge, hlt2⟩ := push_Zl w3 W.heap.size (.slice ua q uc) q L x HO3 HB3.size (by omega); have HB4 : Below W.heap.size W U := Below.turns (P := fun k => W.heap.size ≤ k) HB3 (((Turns.refl _ _).alloc _).grown hgr (fun k hk => (HO3.lt k hk).1)) (fun k hk => hk); have LO4 := LO3.push (n := q + 1) (cap := cap2) hgr hat; have hfin : Hid (U.ownsRow W.heap.size 3 1 (.slice (some ⟨g2, 0, none⟩) (q + 1) cap2) (q + 1) ((L ++ [x]).map (Value.int .i64)) ∧ LocR w1.heap.size w2 U (.slice (some ⟨g2, 0, none⟩) (q + 1) cap2) ∧ Below W.heap.size W U) := ⟨hown2, LO4, HB4⟩; clear HO hown2 HB4 hgr hat hge hlt2 HO3 LO4 LO3 HB3)
        | (at_builtin; refine Lib.wpList_append_run _ rfl _ _ _ _ rfl _ _ rfl rfl _ _ hrun ?_))
       go_roundw
       case rel => exact ⟨j + 1, q + 1, L ++ [x], by omega, by go_num, by omega, HMn.out, hfin.out.1, hfin.out.2.1, hfin.out.2.2⟩
       case measure => simp [intOf]; omega
   ·
    obtain rfl : nm = j := by omega
    have hj0 : ¬ (nm : Int) < nm := by omega
    have HCL : Hid (checkOK ns t ms = justL ns L) := HC.out L (by rw [HMj.out, EM.out, List.drop_length]; rfl)
    have HBR2 : Hid (Box3 wr (w.heap.size + 1) (.int .i64 0) (.int .i64 0) (.int .i64 0)) := BR
    obtain ⟨⟨k0, k1, k2, k3⟩, -⟩ := HD.out.box.turns LO.st (by omega)
    obtain ⟨pa, pc, hpa⟩ := owns_sees HD.out.r1
    obtain ⟨qa, qc, hqa⟩ := owns_sees HD.out.r2
    rw [hpa] at k0
    rw [hqa] at k1
    have mt1 : t.pairs.length ≤ 9223372036854775807 := owns_few HD.out.r1
    have mt2 : t.blocks.length ≤ 9223372036854775807 := owns_few HD.out.r2
    clear hpa hqa HC HC0 HMj HO LO HD
    obtain ⟨wq, hwq⟩ : ∃ X, X = wr := ⟨_, rfl⟩
    subst hwq
    go_wp2
    go_loopw [55] (fun v wx => ∃ i : Nat, i ≤ n' ∧ v = .int .i64 i ∧ (∀ k, k < i → atB ns k = (decide (k < 10) || L.contains (k : Int))) ∧ Below wq.heap.size wq wx) (fun v _ => n' - (intOf v).toNat)
    case atStart => exact ⟨0, by omega, rfl, fun k hk => by omega, Below.refl _ _⟩
    case round =>
     obtain ⟨i, hi, rfl, hA, HB3⟩ := hrel
     have HA : Hid (∀ k, k < i → atB ns k = (decide (k < 10) || L.contains (k : Int))) := hA
     clear hA
     replace HB := Below.tr HB HB3
     have BR := HBR2.out.below HB3
     clear r0 r1 r2 f0 f1 f2
     obtain ⟨⟨r0, r1, r2⟩, f0, f1, f2⟩ := id BR
     by_cases hlt : i < n'
     ·
      have hlt' : (i : Int) < n' := by omega
      obtain ⟨x, hx⟩ : ∃ x, Hid (ns[i]? = some x) := get_some (by rw [← EN.out]; exact hlt)
      obtain ⟨b1, o1, rfl, -, hc⟩ := RN.out.2.2 i x hx.out
      have z := cell_below HB hc
      have hbad2 : Hid (x ≠ (decide (i < 10) || L.contains (i : Int)) → justL ns L = false) := fun hne => by
       cases hj : justL ns L with
       | false => rfl
       | true =>
        have := (just_iff.1 hj).2 i (by rw [← EN.out]; exact hlt)
        rw [atB_some hx.out] at this
        exact absurd this hne
      have hgood : Hid (x = (decide (i < 10) || L.contains (i : Int)) → ∀ k, k < i + 1 → atB ns k = (decide (k < 10) || L.contains (k : Int))) := fun he k hk => by
       by_cases e : k = i
       ·
        subst e; rw [atB_some hx.out]; exact he
       ·
        exact HA.out k (by omega)
      clear hc hx HA
      by_cases h10 : i < 10
      ·
       have h10' : (i : Int) < 10 := by omega
       cases x with
       | false =>
        have HF := HNEG.out (by rw [HCL.out]; exact hbad2.out (by rw [decide_eq_true h10, Bool.true_or]; decide))
        go_wp2
        obtain ⟨z0, z1, z2⟩ := set3_cells (v0 := .int .i64 0) (v1 := .int .i64 0) (v2 := .int .i64 0) r0 r1 r2
        refine bodyPost_ret (v := .tuple #[.agg #[.int .i64 0, .int .i64 0, .int .i64 0], .int .i64 81]) (by simp [results, Try.results10, go_sem, z0, z1, z2]) rfl ?_
        rw [HF.out.1, HF.out.2.1, HF.out.2.2.1, HF.out.2.2.2]
        exact ⟨rfl, below_set3 HB (by omega)⟩
       | true =>
        have HG : Hid (∀ k, k < i + 1 → atB ns k = (decide (k < 10) || L.contains (k : Int))) := hgood.out (by rw [decide_eq_true h10]; rfl)
        clear hgood hbad2
        go_wp2
        go_roundw
        case rel => exact ⟨i + 1, by omega, by go_num, HG.out, HB3⟩
        case measure => simp [intOf]; omega
      ·
       have h10' : ¬ (i : Int) < 10 := by omega
       have cI := refIn_any ua uc q L i wr HIL.out.2 (HIL.out.1.below HB3)
       have hdc : decide ((i : Int) ∈ L) = L.contains (i : Int) := by rw [Bool.eq_iff_iff]; simp
       rw [hdc] at cI
       rw [decide_eq_false h10, Bool.false_or] at hbad2 hgood
       obtain ⟨y, hy⟩ : ∃ y, y = L.contains (i : Int) := ⟨_, rfl⟩
       rw [← hy] at cI hbad2
       clear hdc
       by_cases he : x = y
       ·
        have he' : (x == y) = true := by simpa using he
        have HG : Hid (∀ k, k < i + 1 → atB ns k = (decide (k < 10) || L.contains (k : Int))) := hgood.out (he.trans hy)
        clear hgood hbad2 hy he
        go_wp2_with (go_at_call 15; refine cI.mono ?_; rintro y' w3 ⟨rfl, hb3⟩; replace HB3 := Below.tr HB3 hb3)
        go_roundw
        case rel => exact ⟨i + 1, by omega, by go_num, HG.out, HB3⟩
        case measure => simp [intOf]; omega
       ·
        have he' : (x == y) = false := by simpa using he
        have HF := HNEG.out (by rw [HCL.out]; exact hbad2.out he)
        clear hgood hbad2 hy he
        go_wp2_with (go_at_call 15; refine cI.mono ?_; rintro y' w3 ⟨rfl, hb3⟩; replace HB := Below.tr HB hb3; replace BR := BR.below hb3; clear r0 r1 r2 f0 f1 f2; obtain ⟨⟨r0, r1, r2⟩, f0, f1, f2⟩ := id BR)
        obtain ⟨z0, z1, z2⟩ := set3_cells (v0 := .int .i64 0) (v1 := .int .i64 0) (v2 := .int .i64 0) r0 r1 r2
        refine bodyPost_ret (v := .tuple #[.agg #[.int .i64 0, .int .i64 0, .int .i64 0], .int .i64 81]) (by simp [results, Try.results10, go_sem, z0, z1, z2]) rfl ?_
        rw [HF.out.1, HF.out.2.1, HF.out.2.2.1, HF.out.2.2.2]
        exact ⟨rfl, below_set3 HB (by omega)⟩
     ·
      obtain rfl : n' = i := by omega
      have hj3 : ¬ (n' : Int) < n' := by omega
      have HF := HPOS.out (by rw [HCL.out]; exact just_iff.2 ⟨rfl, by rw [← EN.out]; exact HA.out⟩)
      have k0' := cell_below HB3 k0
      have k1' := cell_below HB3 k1
      have k2' := cell_below HB3 k2
      clear k0 k1 k2 k3 HA HPOS HNEG
      go_wp2
      go_region
      go_wp2
      obtain ⟨z0, z1, z2⟩ := set3_cells (v0 := .int .i64 t.pairs.length) (v1 := .int .i64 t.height) (v2 := .int .i64 t.blocks.length) r0 r1 r2
      refine bodyPost_ret (v := .tuple #[.agg #[.int .i64 t.pairs.length, .int .i64 t.height, .int .i64 t.blocks.length], .int .i64 0]) (by simp [results, Try.results10, go_sem, z0, z1, z2]) rfl ?_
      rw [HF.out.1, HF.out.2.1, HF.out.2.2.1, HF.out.2.2.2]
      exact ⟨rfl, (below_set3 HB (by omega)).drew⟩
 ·
  have HF : Hid (rP = 0 ∧ rH = 0 ∧ rB = 0 ∧ rE = eB) := by
   refine hbad eB he0 ?_
   rw [hEB] at he0 ⊢
   unfold blocksE checkE at *
   cases r with
   | false => rfl
   | true => cases hb : t.bad with
    | false => rw [hb] at he0; simp at he0
    | true => simp
  have he0' : (eB != 0) = true := by simpa using he0
  clear hn hn' hp hB hB' hP hm hI hr ht hE hP' hH hBB hbad hEB hLB he0 cT
  go_enter Try.func10, Try.ntmps10
  go_wp2_with (
   (go_at_call 8; rw [← hW]; refine cL.mono ?_; rintro y w1 ⟨u, q, rfl, hown, hb⟩; replace HB := Below.tr HB hb; have HW1 := hb; replace BR := BR.below hb; replace BW := BW.below hb; clear x0 x1 x2 x3 x4 r0 r1 r2 f0 f1 f2; obtain ⟨x0, x1, x2, x3, x4⟩ := id BW; obtain ⟨⟨r0, r1, r2⟩, f0, f1, f2⟩ := id BR; clear hb))
  obtain ⟨z0, z1, z2⟩ := set3_cells (v0 := .int .i64 0) (v1 := .int .i64 0) (v2 := .int .i64 0) r0 r1 r2
  refine bodyPost_ret (v := .tuple #[.agg #[.int .i64 0, .int .i64 0, .int .i64 0], .int .i64 eB]) (by simp [results, Try.results10, go_sem, z0, z1, z2]) rfl ?_
  rw [HF.out.1, HF.out.2.1, HF.out.2.2.1, HF.out.2.2.2]
  exact ⟨rfl, below_set3 HB (by omega)⟩
end Go.Proofs.Ytpepgpjiddophaa

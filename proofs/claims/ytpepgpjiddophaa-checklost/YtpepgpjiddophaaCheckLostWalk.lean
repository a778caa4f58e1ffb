/-
  The walk through the statement CheckLost.
-/
import Derived.Test.YtpepgpjiddophaaSlC
import Derived.Test.YtpepgpjiddophaaSlB
namespace Go.Proofs.Ytpepgpjiddophaa
open Go.RowKit Plain
set_option linter.unusedVariables false



set_option maxRecDepth 20000 in
set_option maxHeartbeats 4000000 in
theorem checkLost_walk (a : Option Addr) (c : Nat) (bs : List Bool) (a' : Option Addr) (c' : Nat) (ns : List Bool) (b : Option Addr) (f : Nat) (ps : List ByteArray) (root gen block : Int) (w : World) (hB : IsB w a c bs) (hB' : IsB w a' c' ns) (hP : IsS w b f ps) (_h1 : (Lit.int .i64 root).wf = true) (_h2 : (Lit.int .i64 gen).wf = true) (_h3 : (Lit.int .i64 block).wf = true) :
    Calls Try.prog 4 #[.agg #[.slice a bs.length c, .slice a' ns.length c', .slice b ps.length f, .int .i64 root, .int .i64 gen], .int .i64 block] w fun e w' => e = .returned (.bool true) ∧ Below w.heap.size w w' := by
  obtain ⟨n, hn⟩ : ∃ n, n = bs.length := ⟨_, rfl⟩
  obtain ⟨n', hn'⟩ : ∃ n, n = ns.length := ⟨_, rfl⟩
  obtain ⟨p, hp⟩ : ∃ n, n = ps.length := ⟨_, rfl⟩
  rw [← hn, ← hn', ← hp]
  obtain ⟨W, hW⟩ : ∃ W, W = w.alloc (.cells #[.slice a n c, .slice a' n' c', .slice b p f, .int .i64 root, .int .i64 gen] 27) := ⟨_, rfl⟩
  have HB : Below w.heap.size w W := by rw [hW]; exact (Below.refl _ _).alloc (Nat.le_refl _) _
  have WI : WoodIn W w.heap.size a n c a' n' c' b p f bs ns ps root gen := ⟨by rw [hW]; exact woodBox_new _ _ _ _ _ _ _ rfl, hn, hn', hp, hB.below HB, hB'.below HB, hP.below HB⟩
  have cS0 : ∀ V, Calls Try.prog 5 #[.agg #[.slice a n c, .slice a' n' c', .slice b p f, .int .i64 root, .int .i64 gen]] V fun e w' => e = .returned (.bool (decide (n' ≤ 300) && decide (p ≤ 300))) ∧ Below V.heap.size V w' := fun V => small11_any a a' b n c n' c' p f root gen V (by rw [hn']; exact Nat.le_trans hB'.1 hB'.2.1) (by rw [hp]; exact Nat.le_trans hP.1 hP.2.1)
  have cA := alive11_any
  have wz : -9223372036854775808 ≤ block ∧ block ≤ 9223372036854775807 := by simpa [Lit.wf, IntKind.min, IntKind.max, IntKind.signed, IntKind.bits] using _h3
  have EN : Hid (n' = ns.length) := hn'
  have RW : Hid ((n = bs.length ∧ p = ps.length) ∧ IsB w a c bs ∧ IsB w a' c' ns ∧ IsS w b f ps) := ⟨⟨hn, hp⟩, hB, hB', hP⟩
  obtain ⟨x0, x1, x2, x3, x4⟩ := hW ▸ WI.1
  clear hn hn' hp hB hB' hP _h1 _h2 _h3
  cases hs : (decide (n' ≤ 300) && decide (p ≤ 300)) with
  | false =>
    have cS : ∀ V, Calls Try.prog 5 #[.agg #[.slice a n c, .slice a' n' c', .slice b p f, .int .i64 root, .int .i64 gen]] V fun e w' => e = .returned (.bool false) ∧ Below V.heap.size V w' := fun V => by have := cS0 V; rw [hs] at this; exact this
    clear cS0 hs
    go_enter Try.func4, Try.ntmps4
    go_wp2_with (first
        | (go_at_call 5; rw [← hW]; refine (cS _).mono ?_; rintro y w1 ⟨rfl, hb⟩; replace WI := WI.below hb; replace HB := Below.tr HB hb; clear x0 x1 x2 x3 x4; obtain ⟨x0, x1, x2, x3, x4⟩ := WI.1; clear hb)
        | (go_at_call 6; refine (cA _).mono ?_; rintro y w5 ⟨rfl, hb⟩; replace HB := Below.tr HB hb; clear hb))
    go_ret
    exact ⟨rfl, HB⟩
  | true =>
    have cS : ∀ V, Calls Try.prog 5 #[.agg #[.slice a n c, .slice a' n' c', .slice b p f, .int .i64 root, .int .i64 gen]] V fun e w' => e = .returned (.bool true) ∧ Below V.heap.size V w' := fun V => by have := cS0 V; rw [hs] at this; exact this
    have h300 : n' ≤ 300 := by simp only [Bool.and_eq_true, decide_eq_true_eq] at hs; exact hs.1
    obtain ⟨rP, hrP⟩ : ∃ x, x = checkP (rightW bs ns ps root gen) ns (treeS ns ps root gen) [] := ⟨_, rfl⟩
    obtain ⟨rH, hrH⟩ : ∃ x, x = checkH (rightW bs ns ps root gen) ns (treeS ns ps root gen) [] := ⟨_, rfl⟩
    obtain ⟨rB, hrB⟩ : ∃ x, x = checkB (rightW bs ns ps root gen) ns (treeS ns ps root gen) [] := ⟨_, rfl⟩
    obtain ⟨rE, hrE⟩ : ∃ x, x = checkE (rightW bs ns ps root gen) ns (treeS ns ps root gen) [] := ⟨_, rfl⟩
    have cC : ∀ V, WoodIn V w.heap.size a n c a' n' c' b p f bs ns ps root gen → Calls Try.prog 9 #[.agg #[.slice a n c, .slice a' n' c', .slice b p f, .int .i64 root, .int .i64 gen], .slice none 0 0] V fun x w' => x = .returned (.tuple #[.agg #[.int .i64 rP, .int .i64 rH, .int .i64 rB], .int .i64 rE]) ∧ Below V.heap.size V w' := fun V x => by
      rw [hrP, hrH, hrB, hrE]
      exact check_in x none 0 0 [] rfl (isI_nil _)
    clear cS0 hs
    by_cases hE : rE = 0
    · subst hE
      obtain ⟨hR, hbad, hok⟩ := check_zero hrE.symm
      obtain ⟨-, h24, -, -⟩ := (rightA_iff bs ns).1 (rightW_now hR)
      obtain ⟨d, r, q, t, k, hd, hd0, hr, hr1, hr2, hq, hq0, hq1, hqt, hk, hk10, hkn⟩ := lost_place block n' (by have := EN.out; omega) h300
      have hdn : (d : Int) ≠ 0 := by omega
      have hkn' : (k : Int) < n' := by omega
      obtain ⟨x, hx⟩ : ∃ x, Hid (ns[k]? = some x) := get_some (by have := EN.out; omega)
      have HRX : Hid (∀ y, rightW bs (ns.set k y) ps root gen = true) := fun y => right_flip hR hk10 y
      have HM : Hid (x = false → checkE true (ns.set k true) (treeS (ns.set k true) ps root gen) [] = 81 ∧ checkE true (ns.set k true) (treeS (ns.set k true) ps root gen) [(k : Int)] = 0) := fun e => lost_more hk10 (by have := EN.out; omega) (by rw [hx.out, e]) hbad hok
      have HL : Hid (x = true → ∀ more, checkE true (ns.set k false) (treeS (ns.set k false) ps root gen) more = 81) := fun e more => lost_less hk10 (by have := EN.out; omega) (by rw [hx.out, e]) hbad hok more
      have HC : Hid (∀ V h g cap more am nm cm, (nm = more.length ∧ IsI V am cm more) → WoodIn V h a n c (some ⟨g, 0, none⟩) n' cap b p f bs (ns.set k (!x)) ps root gen → Calls Try.prog 9 #[.agg #[.slice a n c, .slice (some ⟨g, 0, none⟩) n' cap, .slice b p f, .int .i64 root, .int .i64 gen], .slice am nm cm] V fun y w' => ∃ u1 u2 u3, y = .returned (.tuple #[.agg #[.int .i64 u1, .int .i64 u2, .int .i64 u3], .int .i64 (checkE true (ns.set k (!x)) (treeS (ns.set k (!x)) ps root gen) more)]) ∧ Below V.heap.size V w') := fun V h g cap more am nm cm hm y => by
        have := check_in y am cm nm more hm.1 hm.2
        rw [HRX.out] at this
        exact this.mono fun _ _ hh => ⟨_, _, _, hh.1, hh.2⟩
      have cQ : ∀ V h g cap, WoodIn V h a n c (some ⟨g, 0, none⟩) n' cap b p f bs (ns.set k (!x)) ps root gen → Calls Try.prog 11 #[.agg #[.slice a n c, .slice (some ⟨g, 0, none⟩) n' cap, .slice b p f, .int .i64 root, .int .i64 gen]] V fun e w' => e = .returned (.bool true) ∧ Below V.heap.size V w' := fun V h g cap y => by
        have := refRightW_any a (some ⟨g, 0, none⟩) b n c n' cap p f bs (ns.set k (!x)) ps root gen V y.2.1 y.2.2.1 y.2.2.2.1 y.2.2.2.2.1 y.2.2.2.2.2.1 y.2.2.2.2.2.2
        rw [HRX.out] at this
        exact this
      have tok1 : True := trivial
      clear hR hbad hok hrP hrH hrB hrE h24
      obtain ⟨bz, oz, haz, -, hz⟩ := RW.out.2.2.1.2.2 k x hx.out
      have HAZ : Hid (a' = some ⟨bz, oz, none⟩) := haz
      clear haz
      cases x with
      | false =>
        obtain ⟨e1, e2⟩ := HM.out rfl
        go_enter Try.func4, Try.ntmps4
        go_wp2_with (first
            | (go_at_call 5; rw [← hW]; refine (cS _).mono ?_; rintro y w1 ⟨rfl, hb⟩; replace WI := WI.below hb; replace HB := Below.tr HB hb; clear x0 x1 x2 x3 x4; obtain ⟨x0, x1, x2, x3, x4⟩ := WI.1; clear hb)
            | (go_at_call 9; have _t := tok1; refine (cC _ WI).mono ?_; rintro y w2 ⟨rfl, hb⟩; have hA := (Below.refl w2.heap.size w2).alloc (Nat.le_refl _) (.cells #[.int .i64 rP, .int .i64 rH, .int .i64 rB] 35); replace WI := (WI.below hb).below hA; replace HB := Below.tr (Below.tr HB hb) hA; clear x0 x1 x2 x3 x4; obtain ⟨x0, x1, x2, x3, x4⟩ := WI.1; have hA2 := (Below.refl (w2.alloc (.cells #[.int .i64 rP, .int .i64 rH, .int .i64 rB] 35)).heap.size (w2.alloc (.cells #[.int .i64 rP, .int .i64 rH, .int .i64 rB] 35))).alloc (Nat.le_refl _) (.cells #[.slice a n c, .slice a' n' c', .slice b p f, .int .i64 root, .int .i64 gen] 27); have WI2 := WI.below hA2; have BX := woodBox_new (w2.alloc (.cells #[.int .i64 rP, .int .i64 rH, .int .i64 rB] 35)) (.slice a n c) (.slice a' n' c') (.slice b p f) (.int .i64 root) (.int .i64 gen) 27 (h := w2.heap.size + 1) (by simp); have fz : ((w2.alloc (.cells #[.int .i64 rP, .int .i64 rH, .int .i64 rB] 35)).alloc (.cells #[.slice a n c, .slice a' n' c', .slice b p f, .int .i64 root, .int .i64 gen] 27)).frozen? ⟨w2.heap.size + 1, 1, none⟩ = false := (by have h0 : ((w2.alloc (.cells #[.int .i64 rP, .int .i64 rH, .int .i64 rB] 35)).alloc (.cells #[.slice a n c, .slice a' n' c', .slice b p f, .int .i64 root, .int .i64 gen] 27)).frozen? ⟨(w2.alloc (.cells #[.int .i64 rP, .int .i64 rH, .int .i64 rB] 35)).heap.size, 1, none⟩ = false := ((World.frozen?_alloc_mark _ _ _ _ _ 1).trans (by simp)); rw [World.size_alloc] at h0; exact h0); obtain ⟨g, cap, w3, hrun, hg, hrow, hb3⟩ := copyT ((w2.alloc (.cells #[.int .i64 rP, .int .i64 rH, .int .i64 rB] 35)).alloc (.cells #[.slice a n c, .slice a' n' c', .slice b p f, .int .i64 root, .int .i64 gen] 27)) a' c' n' ns EN.out WI2.2.2.2.2.2.1 (by omega) 22; have y1 := cell_alloc WI2.1.2.1 (.cells #[] 4); simp only [World.size_alloc] at hrun hg; have BX3 := BX.below hb3; have fz3 : w3.frozen? ⟨w2.heap.size + 1, 1, none⟩ = false := (by rw [hb3.frozen (p := ⟨w2.heap.size + 1, 1, none⟩) (by simp)]; exact fz); have v1 := BX3.2.1; clear tok1 hb hA)
            | (at_builtin; refine Lib.wpList_append_run _ rfl _ _ _ _ rfl _ _ rfl rfl _ _ hrun ?_))
        have HB3 : Below w.heap.size w w3 := Below.tr (Below.tr HB hA2) hb3
        have hwg : w.heap.size ≤ w2.heap.size := by have := WI.1.1; have := cell_lt this; simp at this; omega
        obtain ⟨S1, hS1⟩ : ∃ X, X = w3.setCell ⟨w2.heap.size + 1, 1, none⟩ (.slice (some ⟨g, 0, none⟩) n' cap) := ⟨_, rfl⟩
        have T1 : Turns (fun i => i = w2.heap.size + 1) w3 S1 := by rw [hS1]; exact Turns.setCell (P := fun i => i = w2.heap.size + 1) (Turns.refl _ _) (p := ⟨w2.heap.size + 1, 1, none⟩) rfl _
        have hgne : g ≠ w2.heap.size + 1 := by omega
        have row1 := hrow.turns T1 hgne
        have u1 : S1.cell? ⟨w2.heap.size + 1, 1, none⟩ = some (.slice (some ⟨g, 0, none⟩) n' cap) := by rw [hS1]; exact World.cell?_setCell_same _ _ _ v1
        have u0 : WoodBox S1 (w2.heap.size + 1) (.slice a n c) (.slice (some ⟨g, 0, none⟩) n' cap) (.slice b p f) (.int .i64 root) (.int .i64 gen) := by
          obtain ⟨b0, b1, b2, b3, b4⟩ := BX3
          have o : ∀ i y, i ≠ 1 → w3.cell? ⟨w2.heap.size + 1, i, none⟩ = some y → S1.cell? ⟨w2.heap.size + 1, i, none⟩ = some y := fun i y hi hy => by rw [hS1, World.cell?_setCell_other _ _ _ _ (fun hh => hi (by cases hh; rfl))]; exact hy
          exact ⟨o 0 _ (by decide) b0, u1, o 2 _ (by decide) b2, o 3 _ (by decide) b3, o 4 _ (by decide) b4⟩
        obtain ⟨q1, qf⟩ := row1.cell hx.out
        have WIw : WoodIn w3 w.heap.size a n c a' n' c' b p f bs ns ps root gen := WI2.below hb3
        have HB4 : Below w.heap.size w S1 := Below.turns HB3 T1 (fun i hi => by omega)
        rw [← hS1]
        clear hS1 v1 fz fz3 hrun hrow y1 x0 x1 x2 x3 x4 BX BX3 HB
        go_region
        have T2 : Turns (fun i => i = w2.heap.size + 1 ∨ i = g) w3 (S1.setCell ⟨g, k, none⟩ (.bool true)).drew := ((T1.mono fun i hi => .inl hi).setCell (p := ⟨g, k, none⟩) (.inr rfl) _).drew
        have T3 : Turns (fun i => i = g) S1 (S1.setCell ⟨g, k, none⟩ (.bool true)).drew := (Turns.setCell (P := fun i => i = g) (Turns.refl _ _) (p := ⟨g, k, none⟩) rfl _).drew
        have row2 := (row1.set k true).below (Below.refl _ _).drew
        generalize (S1.setCell ⟨g, k, none⟩ (.bool true)).drew = Y at T2 T3 row2 ⊢
        have HB : Below w.heap.size w Y := Below.turns HB4 T3 (fun i hi => by omega)
        have WX : WoodIn Y (w2.heap.size + 1) a n c (some ⟨g, 0, none⟩) n' cap b p f bs (ns.set k true) ps root gen := ⟨u0.turns T3 (fun e => hgne e.symm), RW.out.1.1, by rw [List.length_set]; exact EN.out, RW.out.1.2, RW.out.2.1.below HB, row2.isB, RW.out.2.2.2.below HB⟩
        have BO := WIw.1.turns T2 (fun hh => by rcases hh with e | e <;> omega)
        have z := cell_below HB hz
        have cX1 : ∀ V, WoodIn V (w2.heap.size + 1) a n c (some ⟨g, 0, none⟩) n' cap b p f bs (ns.set k true) ps root gen → Calls Try.prog 9 #[.agg #[.slice a n c, .slice (some ⟨g, 0, none⟩) n' cap, .slice b p f, .int .i64 root, .int .i64 gen], .slice none 0 0] V fun y w' => ∃ u1 u2 u3, y = .returned (.tuple #[.agg #[.int .i64 u1, .int .i64 u2, .int .i64 u3], .int .i64 81]) ∧ Below V.heap.size V w' := fun V hy => (HC.out V _ g cap [] none 0 0 ⟨rfl, isI_nil _⟩ hy).mono fun y w' hh => by
          obtain ⟨u1, u2, u3, h1, h2⟩ := hh
          exact ⟨u1, u2, u3, by rw [h1]; show Ending.returned (.tuple #[.agg #[.int .i64 u1, .int .i64 u2, .int .i64 u3], .int .i64 (checkE true (ns.set k true) (treeS (ns.set k true) ps root gen) [])]) = _; rw [e1], h2⟩
        have cX2 : ∀ V q, q = V.heap.size → WoodIn V (w2.heap.size + 1) a n c (some ⟨g, 0, none⟩) n' cap b p f bs (ns.set k true) ps root gen → Calls Try.prog 9 #[.agg #[.slice a n c, .slice (some ⟨g, 0, none⟩) n' cap, .slice b p f, .int .i64 root, .int .i64 gen], .slice (some ⟨q, 0, none⟩) 1 1] (V.alloc (.cells #[.int .i64 k] 3)) fun y w' => ∃ u1 u2 u3, y = .returned (.tuple #[.agg #[.int .i64 u1, .int .i64 u2, .int .i64 u3], .int .i64 0]) ∧ Below V.heap.size V w' := fun V q hq hy => (HC.out (V.alloc (.cells #[.int .i64 k] 3)) _ g cap [(k : Int)] (some ⟨q, 0, none⟩) 1 1 ⟨rfl, hq ▸ isI_one V k⟩ (hy.below ((Below.refl _ _).alloc (Nat.le_refl _) _))).mono fun y w' hh => by
          obtain ⟨u1, u2, u3, h1, h2⟩ := hh
          exact ⟨u1, u2, u3, by rw [h1]; show Ending.returned (.tuple #[.agg #[.int .i64 u1, .int .i64 u2, .int .i64 u3], .int .i64 (checkE true (ns.set k true) (treeS (ns.set k true) ps root gen) [(k : Int)])]) = _; rw [e2], Below.tr ((Below.refl _ _).alloc (Nat.le_refl _) _) h2⟩
        have cQ2 : ∀ V, WoodIn V (w2.heap.size + 1) a n c (some ⟨g, 0, none⟩) n' cap b p f bs (ns.set k true) ps root gen → Calls Try.prog 11 #[.agg #[.slice a n c, .slice (some ⟨g, 0, none⟩) n' cap, .slice b p f, .int .i64 root, .int .i64 gen]] V fun e w' => e = .returned (.bool true) ∧ Below V.heap.size V w' := fun V hy => cQ V _ g cap hy
        generalize w2.heap.size + 1 = hx2 at WX u0 cX1 cX2 cQ2 ⊢
        obtain ⟨x0, x1, x2, x3, x4⟩ := WX.1
        obtain ⟨o0, o1, o2, o3, o4⟩ := id BO
        have tok2 : True := trivial
        have tok3 : True := trivial
        have haz := HAZ.out
        clear T1 T2 T3 row1 row2 u1 u0 q1 qf WIw WI WI2 HB4 HB3 hA2 hb3 hz cQ HC e1 e2 cC cS hgne hg hwg HM HL
        subst haz
        go_wp2_with (first
          | (go_at_call 9; have _t := tok2; refine (cX1 _ WX).mono ?_; rintro y w6 ⟨s1, s2, s3, rfl, hb⟩; have hA := (Below.refl w6.heap.size w6).alloc (Nat.le_refl _) (.cells #[.int .i64 s1, .int .i64 s2, .int .i64 s3] 35); replace hb := Below.tr hb hA; replace WX := WX.below hb; replace BO := BO.below hb; replace z := cell_below hb z; replace HB := Below.tr HB hb; clear x0 x1 x2 x3 x4 o0 o1 o2 o3 o4 tok2 hA hb; obtain ⟨x0, x1, x2, x3, x4⟩ := WX.1; obtain ⟨o0, o1, o2, o3, o4⟩ := id BO)
          | (go_at_call 9; have _t := tok3; refine (cX2 (w6.alloc (.cells #[.int .i64 s1, .int .i64 s2, .int .i64 s3] 35)) (w6.heap.size + 1) (by simp) WX).mono ?_; rintro y w7 ⟨s1, s2, s3, rfl, hb⟩; have hA := (Below.refl w7.heap.size w7).alloc (Nat.le_refl _) (.cells #[.int .i64 s1, .int .i64 s2, .int .i64 s3] 35); replace hb := Below.tr hb hA; replace WX := WX.below hb; replace BO := BO.below hb; replace z := cell_below hb z; replace HB := Below.tr HB hb; clear x0 x1 x2 x3 x4 o0 o1 o2 o3 o4 tok3 hA hb; obtain ⟨x0, x1, x2, x3, x4⟩ := WX.1; obtain ⟨o0, o1, o2, o3, o4⟩ := id BO)
          | (go_at_call 6; refine (cA _).mono ?_; rintro y w8 ⟨rfl, hb⟩; replace WX := WX.below hb; replace BO := BO.below hb; replace z := cell_below hb z; replace HB := Below.tr HB hb; clear x0 x1 x2 x3 x4 o0 o1 o2 o3 o4 hb; obtain ⟨x0, x1, x2, x3, x4⟩ := WX.1; obtain ⟨o0, o1, o2, o3, o4⟩ := id BO)
          | (go_at_call 11; refine (cQ2 _ WX).mono ?_; rintro y w9 ⟨rfl, hb⟩; replace HB := Below.tr HB hb))
        go_ret
        exact ⟨rfl, HB⟩
      | true =>
        have e1 := HL.out rfl []
        have e2 := HL.out rfl [(k : Int)]
        go_enter Try.func4, Try.ntmps4
        go_wp2_with (first
            | (go_at_call 5; rw [← hW]; refine (cS _).mono ?_; rintro y w1 ⟨rfl, hb⟩; replace WI := WI.below hb; replace HB := Below.tr HB hb; clear x0 x1 x2 x3 x4; obtain ⟨x0, x1, x2, x3, x4⟩ := WI.1; clear hb)
            | (go_at_call 9; have _t := tok1; refine (cC _ WI).mono ?_; rintro y w2 ⟨rfl, hb⟩; have hA := (Below.refl w2.heap.size w2).alloc (Nat.le_refl _) (.cells #[.int .i64 rP, .int .i64 rH, .int .i64 rB] 35); replace WI := (WI.below hb).below hA; replace HB := Below.tr (Below.tr HB hb) hA; clear x0 x1 x2 x3 x4; obtain ⟨x0, x1, x2, x3, x4⟩ := WI.1; have hA2 := (Below.refl (w2.alloc (.cells #[.int .i64 rP, .int .i64 rH, .int .i64 rB] 35)).heap.size (w2.alloc (.cells #[.int .i64 rP, .int .i64 rH, .int .i64 rB] 35))).alloc (Nat.le_refl _) (.cells #[.slice a n c, .slice a' n' c', .slice b p f, .int .i64 root, .int .i64 gen] 27); have WI2 := WI.below hA2; have BX := woodBox_new (w2.alloc (.cells #[.int .i64 rP, .int .i64 rH, .int .i64 rB] 35)) (.slice a n c) (.slice a' n' c') (.slice b p f) (.int .i64 root) (.int .i64 gen) 27 (h := w2.heap.size + 1) (by simp); have fz : ((w2.alloc (.cells #[.int .i64 rP, .int .i64 rH, .int .i64 rB] 35)).alloc (.cells #[.slice a n c, .slice a' n' c', .slice b p f, .int .i64 root, .int .i64 gen] 27)).frozen? ⟨w2.heap.size + 1, 1, none⟩ = false := (by have h0 : ((w2.alloc (.cells #[.int .i64 rP, .int .i64 rH, .int .i64 rB] 35)).alloc (.cells #[.slice a n c, .slice a' n' c', .slice b p f, .int .i64 root, .int .i64 gen] 27)).frozen? ⟨(w2.alloc (.cells #[.int .i64 rP, .int .i64 rH, .int .i64 rB] 35)).heap.size, 1, none⟩ = false := ((World.frozen?_alloc_mark _ _ _ _ _ 1).trans (by simp)); rw [World.size_alloc] at h0; exact h0); obtain ⟨g, cap, w3, hrun, hg, hrow, hb3⟩ := copyT ((w2.alloc (.cells #[.int .i64 rP, .int .i64 rH, .int .i64 rB] 35)).alloc (.cells #[.slice a n c, .slice a' n' c', .slice b p f, .int .i64 root, .int .i64 gen] 27)) a' c' n' ns EN.out WI2.2.2.2.2.2.1 (by omega) 22; have y1 := cell_alloc WI2.1.2.1 (.cells #[] 4); simp only [World.size_alloc] at hrun hg; have BX3 := BX.below hb3; have fz3 : w3.frozen? ⟨w2.heap.size + 1, 1, none⟩ = false := (by rw [hb3.frozen (p := ⟨w2.heap.size + 1, 1, none⟩) (by simp)]; exact fz); have v1 := BX3.2.1; clear tok1 hb hA)
            | (at_builtin; refine Lib.wpList_append_run _ rfl _ _ _ _ rfl _ _ rfl rfl _ _ hrun ?_))
        have HB3 : Below w.heap.size w w3 := Below.tr (Below.tr HB hA2) hb3
        have hwg : w.heap.size ≤ w2.heap.size := by have := WI.1.1; have := cell_lt this; simp at this; omega
        obtain ⟨S1, hS1⟩ : ∃ X, X = w3.setCell ⟨w2.heap.size + 1, 1, none⟩ (.slice (some ⟨g, 0, none⟩) n' cap) := ⟨_, rfl⟩
        have T1 : Turns (fun i => i = w2.heap.size + 1) w3 S1 := by rw [hS1]; exact Turns.setCell (P := fun i => i = w2.heap.size + 1) (Turns.refl _ _) (p := ⟨w2.heap.size + 1, 1, none⟩) rfl _
        have hgne : g ≠ w2.heap.size + 1 := by omega
        have row1 := hrow.turns T1 hgne
        have u1 : S1.cell? ⟨w2.heap.size + 1, 1, none⟩ = some (.slice (some ⟨g, 0, none⟩) n' cap) := by rw [hS1]; exact World.cell?_setCell_same _ _ _ v1
        have u0 : WoodBox S1 (w2.heap.size + 1) (.slice a n c) (.slice (some ⟨g, 0, none⟩) n' cap) (.slice b p f) (.int .i64 root) (.int .i64 gen) := by
          obtain ⟨b0, b1, b2, b3, b4⟩ := BX3
          have o : ∀ i y, i ≠ 1 → w3.cell? ⟨w2.heap.size + 1, i, none⟩ = some y → S1.cell? ⟨w2.heap.size + 1, i, none⟩ = some y := fun i y hi hy => by rw [hS1, World.cell?_setCell_other _ _ _ _ (fun hh => hi (by cases hh; rfl))]; exact hy
          exact ⟨o 0 _ (by decide) b0, u1, o 2 _ (by decide) b2, o 3 _ (by decide) b3, o 4 _ (by decide) b4⟩
        obtain ⟨q1, qf⟩ := row1.cell hx.out
        have WIw : WoodIn w3 w.heap.size a n c a' n' c' b p f bs ns ps root gen := WI2.below hb3
        have HB4 : Below w.heap.size w S1 := Below.turns HB3 T1 (fun i hi => by omega)
        rw [← hS1]
        clear hS1 v1 fz fz3 hrun hrow y1 x0 x1 x2 x3 x4 BX BX3 HB
        go_region
        have T2 : Turns (fun i => i = w2.heap.size + 1 ∨ i = g) w3 (S1.setCell ⟨g, k, none⟩ (.bool false)).drew := ((T1.mono fun i hi => .inl hi).setCell (p := ⟨g, k, none⟩) (.inr rfl) _).drew
        have T3 : Turns (fun i => i = g) S1 (S1.setCell ⟨g, k, none⟩ (.bool false)).drew := (Turns.setCell (P := fun i => i = g) (Turns.refl _ _) (p := ⟨g, k, none⟩) rfl _).drew
        have row2 := (row1.set k false).below (Below.refl _ _).drew
        generalize (S1.setCell ⟨g, k, none⟩ (.bool false)).drew = Y at T2 T3 row2 ⊢
        have HB : Below w.heap.size w Y := Below.turns HB4 T3 (fun i hi => by omega)
        have WX : WoodIn Y (w2.heap.size + 1) a n c (some ⟨g, 0, none⟩) n' cap b p f bs (ns.set k false) ps root gen := ⟨u0.turns T3 (fun e => hgne e.symm), RW.out.1.1, by rw [List.length_set]; exact EN.out, RW.out.1.2, RW.out.2.1.below HB, row2.isB, RW.out.2.2.2.below HB⟩
        have BO := WIw.1.turns T2 (fun hh => by rcases hh with e | e <;> omega)
        have z := cell_below HB hz
        have cX1 : ∀ V, WoodIn V (w2.heap.size + 1) a n c (some ⟨g, 0, none⟩) n' cap b p f bs (ns.set k false) ps root gen → Calls Try.prog 9 #[.agg #[.slice a n c, .slice (some ⟨g, 0, none⟩) n' cap, .slice b p f, .int .i64 root, .int .i64 gen], .slice none 0 0] V fun y w' => ∃ u1 u2 u3, y = .returned (.tuple #[.agg #[.int .i64 u1, .int .i64 u2, .int .i64 u3], .int .i64 81]) ∧ Below V.heap.size V w' := fun V hy => (HC.out V _ g cap [] none 0 0 ⟨rfl, isI_nil _⟩ hy).mono fun y w' hh => by
          obtain ⟨u1, u2, u3, h1, h2⟩ := hh
          exact ⟨u1, u2, u3, by rw [h1]; show Ending.returned (.tuple #[.agg #[.int .i64 u1, .int .i64 u2, .int .i64 u3], .int .i64 (checkE true (ns.set k false) (treeS (ns.set k false) ps root gen) [])]) = _; rw [e1], h2⟩
        have cX2 : ∀ V q, q = V.heap.size → WoodIn V (w2.heap.size + 1) a n c (some ⟨g, 0, none⟩) n' cap b p f bs (ns.set k false) ps root gen → Calls Try.prog 9 #[.agg #[.slice a n c, .slice (some ⟨g, 0, none⟩) n' cap, .slice b p f, .int .i64 root, .int .i64 gen], .slice (some ⟨q, 0, none⟩) 1 1] (V.alloc (.cells #[.int .i64 k] 3)) fun y w' => ∃ u1 u2 u3, y = .returned (.tuple #[.agg #[.int .i64 u1, .int .i64 u2, .int .i64 u3], .int .i64 81]) ∧ Below V.heap.size V w' := fun V q hq hy => (HC.out (V.alloc (.cells #[.int .i64 k] 3)) _ g cap [(k : Int)] (some ⟨q, 0, none⟩) 1 1 ⟨rfl, hq ▸ isI_one V k⟩ (hy.below ((Below.refl _ _).alloc (Nat.le_refl _) _))).mono fun y w' hh => by
          obtain ⟨u1, u2, u3, h1, h2⟩ := hh
          exact ⟨u1, u2, u3, by rw [h1]; show Ending.returned (.tuple #[.agg #[.int .i64 u1, .int .i64 u2, .int .i64 u3], .int .i64 (checkE true (ns.set k false) (treeS (ns.set k false) ps root gen) [(k : Int)])]) = _; rw [e2], Below.tr ((Below.refl _ _).alloc (Nat.le_refl _) _) h2⟩
        have cQ2 : ∀ V, WoodIn V (w2.heap.size + 1) a n c (some ⟨g, 0, none⟩) n' cap b p f bs (ns.set k false) ps root gen → Calls Try.prog 11 #[.agg #[.slice a n c, .slice (some ⟨g, 0, none⟩) n' cap, .slice b p f, .int .i64 root, .int .i64 gen]] V fun e w' => e = .returned (.bool true) ∧ Below V.heap.size V w' := fun V hy => cQ V _ g cap hy
        generalize w2.heap.size + 1 = hx2 at WX u0 cX1 cX2 cQ2 ⊢
        obtain ⟨x0, x1, x2, x3, x4⟩ := WX.1
        obtain ⟨o0, o1, o2, o3, o4⟩ := id BO
        have tok2 : True := trivial
        have tok3 : True := trivial
        have haz := HAZ.out
        clear T1 T2 T3 row1 row2 u1 u0 q1 qf WIw WI WI2 HB4 HB3 hA2 hb3 hz cQ HC e1 e2 cC cS hgne hg hwg HM HL
        subst haz
        go_wp2_with (first
          | (go_at_call 9; have _t := tok2; refine (cX1 _ WX).mono ?_; rintro y w6 ⟨s1, s2, s3, rfl, hb⟩; have hA := (Below.refl w6.heap.size w6).alloc (Nat.le_refl _) (.cells #[.int .i64 s1, .int .i64 s2, .int .i64 s3] 35); replace hb := Below.tr hb hA; replace WX := WX.below hb; replace BO := BO.below hb; replace z := cell_below hb z; replace HB := Below.tr HB hb; clear x0 x1 x2 x3 x4 o0 o1 o2 o3 o4 tok2 hA hb; obtain ⟨x0, x1, x2, x3, x4⟩ := WX.1; obtain ⟨o0, o1, o2, o3, o4⟩ := id BO)
          | (go_at_call 9; have _t := tok3; refine (cX2 (w6.alloc (.cells #[.int .i64 s1, .int .i64 s2, .int .i64 s3] 35)) (w6.heap.size + 1) (by simp) WX).mono ?_; rintro y w7 ⟨s1, s2, s3, rfl, hb⟩; have hA := (Below.refl w7.heap.size w7).alloc (Nat.le_refl _) (.cells #[.int .i64 s1, .int .i64 s2, .int .i64 s3] 35); replace hb := Below.tr hb hA; replace WX := WX.below hb; replace BO := BO.below hb; replace z := cell_below hb z; replace HB := Below.tr HB hb; clear x0 x1 x2 x3 x4 o0 o1 o2 o3 o4 tok3 hA hb; obtain ⟨x0, x1, x2, x3, x4⟩ := WX.1; obtain ⟨o0, o1, o2, o3, o4⟩ := id BO)
          | (go_at_call 6; refine (cA _).mono ?_; rintro y w8 ⟨rfl, hb⟩; replace WX := WX.below hb; replace BO := BO.below hb; replace z := cell_below hb z; replace HB := Below.tr HB hb; clear x0 x1 x2 x3 x4 o0 o1 o2 o3 o4 hb; obtain ⟨x0, x1, x2, x3, x4⟩ := WX.1; obtain ⟨o0, o1, o2, o3, o4⟩ := id BO)
          | (go_at_call 11; refine (cQ2 _ WX).mono ?_; rintro y w9 ⟨rfl, hb⟩; replace HB := Below.tr HB hb))
        go_ret
        exact ⟨rfl, HB⟩
    · have hE' : (rE != 0) = true := by simpa using hE
      clear hrP hrH hrB hrE hE
      go_enter Try.func4, Try.ntmps4
      go_wp2_with (first
          | (go_at_call 5; rw [← hW]; refine (cS _).mono ?_; rintro y w1 ⟨rfl, hb⟩; replace WI := WI.below hb; replace HB := Below.tr HB hb; clear x0 x1 x2 x3 x4; obtain ⟨x0, x1, x2, x3, x4⟩ := WI.1; clear hb)
          | (go_at_call 9; refine (cC _ WI).mono ?_; rintro y w2 ⟨rfl, hb⟩; replace HB := (Below.tr HB hb).alloc (Below.tr HB hb).size (.cells #[.int .i64 rP, .int .i64 rH, .int .i64 rB] 35); clear x0 x1 x2 x3 x4 hb)
          | (go_at_call 6; refine (cA _).mono ?_; rintro y w5 ⟨rfl, hb⟩; replace HB := Below.tr HB hb; clear hb))
      go_ret
      exact ⟨rfl, HB⟩

end Go.Proofs.Ytpepgpjiddophaa


/-
  The walk through the statement NodeCuts.
-/
import Derived.Test.YtmhnnfmggdohkaaNodeRefCut
import Derived.Test.YtmhnnfmggdohkaaNodeRefJoinB
import Derived.Test.YtmhnnfmggdohkaaNodeFewK
import Derived.Test.YtmhnnfmggdohkaaNodeIn
namespace Go.Proofs.Ytmhnnfmggdohkaa
open Go.RowKit Plain Anylast
set_option linter.unusedVariables false

/-- What the operations of the law's first line yield: two nodes of few. -/
def cutsV (v u v' u' : Value) : Nat → Value
  | 0 => v
  | 1 => u
  | 2 => v'
  | 3 => u'
  | _ => undef

set_option maxRecDepth 20000 in
set_option maxHeartbeats 8000000 in
theorem nodeCuts_walk (l : Bool) (a : Option Addr) (c : Nat) (ks : List ByteArray) (a' : Option Addr) (c' : Nat) (vs : List ByteArray) (a'' : Option Addr) (c'' : Nat) (cs : List Int) (key : ByteArray) (l2 : Bool) (b : Option Addr) (f : Nat) (ks2 : List ByteArray) (b' : Option Addr) (f' : Nat) (vs2 : List ByteArray) (b'' : Option Addr) (f'' : Nat) (cs2 : List Int) (w : World)
    (hK : IsS w a c ks) (hV : IsS w a' c' vs) (hC : IsI w a'' c'' cs) (hkey : key.size ≤ maxLen) (hK2 : IsS w b f ks2) (hV2 : IsS w b' f' vs2) (hC2 : IsI w b'' f'' cs2) :
    Calls Try.prog 6 #[.agg #[.bool l, .slice a ks.length c, .slice a' vs.length c', .slice a'' cs.length c''], .string key, .agg #[.bool l2, .slice b ks2.length f, .slice b' vs2.length f', .slice b'' cs2.length f'']] w fun e w' => e = .returned (.bool true) ∧ Below w.heap.size w w' := by
  obtain ⟨n, m, xs, hn, hxs, hm, hmin, IX, g1, g2, g3⟩ := few_S hK
  obtain ⟨n', m', ys, hn', hys, hm', hmin', IY, g1', g2', g3'⟩ := few_S hV
  obtain ⟨n'', m'', zs, hn'', hzs, hm'', hmin'', IZ, g1'', g2'', g3''⟩ := few_I hC
  obtain ⟨o, p, xs2, ho, hxs2, hp, hminp, IX2, k1, k2, k3⟩ := few_S hK2
  obtain ⟨o', p', ys2, ho', hys2, hp', hminp', IY2, k1', k2', k3'⟩ := few_S hV2
  obtain ⟨o'', p'', zs2, ho'', hzs2, hp'', hminp'', IZ2, k1'', k2'', k3''⟩ := few_I hC2
  rw [← hn, ← hn', ← hn'', ← ho, ← ho', ← ho'']
  obtain ⟨W, hW⟩ : ∃ W, W = (w.alloc (.cells #[.bool l, .slice a n c, .slice a' n' c', .slice a'' n'' c''] 25)).alloc (.cells #[.bool l2, .slice b o f, .slice b' o' f', .slice b'' o'' f''] 25) := ⟨_, rfl⟩
  obtain ⟨V0, hV0⟩ : ∃ V, V = W.drew := ⟨_, rfl⟩
  have hB0 : Below w.heap.size w V0 := by rw [hV0, hW]; exact (((Below.refl _ _).alloc (Nat.le_refl _) _).alloc (by simp) _).drew
  have hX0 : Box4 V0 w.heap.size (.bool l) (.slice a n c) (.slice a' n' c') (.slice a'' n'' c'') := by rw [hV0, hW]; exact ((box4_new _ _ _ _ _ _ rfl).alloc _).drew
  have hY0 : Box4 V0 (w.heap.size + 1) (.bool l2) (.slice b o f) (.slice b' o' f') (.slice b'' o'' f'') := by rw [hV0, hW]; exact (box4_new _ _ _ _ _ _ (by simp)).drew
  obtain ⟨V1, hB1, hcall1⟩ := few_known l a a' a'' c c' c'' n n' n'' m m' m'' V0 g1 g1' g1'' g2 g2' g2'' hmin hmin' hmin''
  have hX1 := hX0.below hB1
  have hY1 := hY0.below hB1
  obtain ⟨V2, hB2, hcall3⟩ := few_known l2 b b' b'' f f' f'' o o' o'' p p' p'' V1 k1 k1' k1'' k2 k2' k2'' hminp hminp' hminp''
  have hX2 := hX1.below hB2
  have hY2 := hY1.below hB2
  obtain ⟨V3, hV3⟩ : ∃ V, V = ((((V2.setCell ⟨w.heap.size, 0, none⟩ (.bool l)).setCell ⟨w.heap.size, 1, none⟩ (.slice a m c)).setCell ⟨w.heap.size, 2, none⟩ (.slice a' m' c')).setCell ⟨w.heap.size, 3, none⟩ (.slice a'' m'' c'')) := ⟨_, rfl⟩
  obtain ⟨V4, hV4⟩ : ∃ V, V = ((((V3.setCell ⟨w.heap.size + 1, 0, none⟩ (.bool l2)).setCell ⟨w.heap.size + 1, 1, none⟩ (.slice b p f)).setCell ⟨w.heap.size + 1, 2, none⟩ (.slice b' p' f')).setCell ⟨w.heap.size + 1, 3, none⟩ (.slice b'' p'' f'')) := ⟨_, rfl⟩
  have T3 : Turns (fun k => k = w.heap.size) V2 V3 := by rw [hV3]; exact turns_put4 V2 _ _ _ _ _
  have T4 : Turns (fun k => k = w.heap.size + 1) V3 V4 := by rw [hV4]; exact turns_put4 V3 _ _ _ _ _
  have hX3 : Box4 V3 w.heap.size (.bool l) (.slice a m c) (.slice a' m' c') (.slice a'' m'' c'') := by rw [hV3]; exact hX2.put _ _ _ _
  have hY3 := hY2.turns T3 (by omega)
  have hX4 := hX3.turns T4 (by omega)
  have hY4 : Box4 V4 (w.heap.size + 1) (.bool l2) (.slice b p f) (.slice b' p' f') (.slice b'' p'' f'') := by rw [hV4]; exact hY3.put _ _ _ _
  have HB : Below w.heap.size w V4 := Below.turns (Below.turns (Below.tr (Below.tr hB0 hB1) hB2) T3 (fun k hk => by omega)) T4 (fun k hk => by omega)
  have NN : NodeIn V4 w.heap.size l a m c a' m' c' a'' m'' c'' xs ys zs := ⟨hX4, hm, hm', hm'', IX.below HB, IY.below HB, IZ.below HB⟩
  have MM : NodeIn V4 (w.heap.size + 1) l2 b p f b' p' f' b'' p'' f'' xs2 ys2 zs2 := ⟨hY4, hp, hp', hp'', IX2.below HB, IY2.below HB, IZ2.below HB⟩
  have hst3 : Hid (((((V2.setCell ⟨w.heap.size, 0, none⟩ (.bool l)).setCell ⟨w.heap.size, 1, none⟩ (.slice a m c)).setCell ⟨w.heap.size, 2, none⟩ (.slice a' m' c')).setCell ⟨w.heap.size, 3, none⟩ (.slice a'' m'' c'')) = V3) := hV3.symm
  have hst4 : Hid (((((V3.setCell ⟨w.heap.size + 1, 0, none⟩ (.bool l2)).setCell ⟨w.heap.size + 1, 1, none⟩ (.slice b p f)).setCell ⟨w.heap.size + 1, 2, none⟩ (.slice b' p' f')).setCell ⟨w.heap.size + 1, 3, none⟩ (.slice b'' p'' f'')) = V4) := hV4.symm
  have HV0 : Hid (V0 = W.drew) := hV0
  have cJ : ∀ V {h h' : Nat}, NodeIn V h l a m c a' m' c' a'' m'' c'' xs ys zs → NodeIn V h' l2 b p f b' p' f' b'' p'' f'' xs2 ys2 zs2 → Calls Try.prog 22 #[.agg #[.bool l, .slice a m c, .slice a' m' c', .slice a'' m'' c''], .string key, .agg #[.bool l2, .slice b p f, .slice b' p' f', .slice b'' p'' f'']] V fun x w' => Answers V x w' (joinL l xs ys zs key l2 xs2 ys2 zs2) (joinKs l xs ys zs key l2 xs2 ys2 zs2) (joinVs l xs ys zs key l2 xs2 ys2 zs2) (joinCs l xs ys zs key l2 xs2 ys2 zs2) (joinE l xs ys zs key l2 xs2 ys2 zs2) := fun V h h' N M =>
    nodeJoin_any l l2 a a' a'' b b' b'' c c' c'' f f' f'' m m' m'' p p' p'' xs ys xs2 ys2 zs zs2 key V N.2.1 N.2.2.1 N.2.2.2.1 N.2.2.2.2.1 N.2.2.2.2.2.1 N.2.2.2.2.2.2 M.2.1 M.2.2.1 M.2.2.2.1 M.2.2.2.2.1 M.2.2.2.2.2.1 M.2.2.2.2.2.2 hkey
  have cK : ∀ V {h h' : Nat}, NodeIn V h l a m c a' m' c' a'' m'' c'' xs ys zs → NodeIn V h' l2 b p f b' p' f' b'' p'' f'' xs2 ys2 zs2 → Calls Try.prog 23 #[.agg #[.bool l, .slice a m c, .slice a' m' c', .slice a'' m'' c''], .string key, .agg #[.bool l2, .slice b p f, .slice b' p' f', .slice b'' p'' f'']] V fun x w' => Answers V x w' (joinL l xs ys zs key l2 xs2 ys2 zs2) (joinKs l xs ys zs key l2 xs2 ys2 zs2) (joinVs l xs ys zs key l2 xs2 ys2 zs2) (joinCs l xs ys zs key l2 xs2 ys2 zs2) (joinE l xs ys zs key l2 xs2 ys2 zs2) := fun V h h' N M =>
    refJoin_any l l2 a a' a'' b b' b'' c c' c'' f f' f'' m m' m'' p p' p'' xs ys xs2 ys2 zs zs2 key V N.2.1 N.2.2.1 N.2.2.2.1 N.2.2.2.2.1 N.2.2.2.2.2.1 N.2.2.2.2.2.2 M.2.1 M.2.2.1 M.2.2.2.1 M.2.2.2.2.1 M.2.2.2.2.2.1 M.2.2.2.2.2.2 hkey
  have cS : ∀ V {h : Nat}, NodeIn V h l a m c a' m' c' a'' m'' c'' xs ys zs → Calls Try.prog 25 #[.agg #[.bool l, .slice a m c, .slice a' m' c', .slice a'' m'' c'']] V fun e w' => e = .returned (.bool (standsN l xs ys zs)) ∧ Below V.heap.size V w' := fun V h N => refStands_at (l := l) N.2.1 N.2.2.1 N.2.2.2.1 N.2.2.2.2.1 N.2.2.2.2.2.1 N.2.2.2.2.2.2
  have cC0 : ∀ V {h : Nat}, NodeIn V h l a m c a' m' c' a'' m'' c'' xs ys zs → Calls Try.prog 24 #[.agg #[.bool l, .slice a m c, .slice a' m' c', .slice a'' m'' c'']] V fun x w' => Answers2 V x w' (cutL l xs ys zs) (cutAK l xs ys zs) (cutAV l xs ys zs) (cutAC l xs ys zs) (cutM l xs ys zs) (cutBK l xs ys zs) (cutBV l xs ys zs) (cutBC l xs ys zs) (cutEr l xs ys zs) := fun V h N => nodeCut_any l a a' a'' c c' c'' m m' m'' xs ys zs V N.2.1 N.2.2.1 N.2.2.2.1 N.2.2.2.2.1 N.2.2.2.2.2.1 N.2.2.2.2.2.2
  have cB : ¬ (standsN l xs ys zs = true ∧ xs.length = 9) → ∀ V {h : Nat}, NodeIn V h l a m c a' m' c' a'' m'' c'' xs ys zs → Calls Try.prog 24 #[.agg #[.bool l, .slice a m c, .slice a' m' c', .slice a'' m'' c'']] V fun x w' => Answers2 V x w' false [] [] [] ⟨#[]⟩ [] [] [] 1 := fun hok V h N => cutBad_any l a a' a'' c c' c'' m m' m'' xs ys zs V N.2.1 N.2.2.1 N.2.2.2.1 N.2.2.2.2.1 N.2.2.2.2.2.1 N.2.2.2.2.2.2 hok
  have cRC0 : standsN l xs ys zs = true ∧ xs.length = 9 → ∀ V {h : Nat}, NodeIn V h l a m c a' m' c' a'' m'' c'' xs ys zs → Calls Try.prog 26 #[.agg #[.bool l, .slice a m c, .slice a' m' c', .slice a'' m'' c'']] V fun x w' => Answers3 V x w' l (xs.take 4) (ys.take 4) (zs.take 5) (xs.getD 4 ⟨#[]⟩) (xs.drop (cutFrom l)) (ys.drop 4) (zs.drop 5) := fun hok V h N => by
    have hl4 : 4 < xs.length := by omega
    have hm4 : xs[4]? = some (xs.getD 4 ⟨#[]⟩) := by rw [List.getD_eq_getElem?_getD, List.getElem?_eq_getElem hl4]; rfl
    obtain ⟨b1, b2, b3⟩ := stands_len hok.1
    exact refCut_any l a a' a'' c c' c'' m m' m'' xs ys zs (xs.getD 4 ⟨#[]⟩) V N.2.1 N.2.2.1 N.2.2.2.1 N.2.2.2.2.1 N.2.2.2.2.2.1 N.2.2.2.2.2.2 hm4 (by omega) (by omega) (by omega)
  have HM : Hid (m = xs.length) := hm
  obtain ⟨jl, hjl⟩ : ∃ x, x = joinL l xs ys zs key l2 xs2 ys2 zs2 := ⟨_, rfl⟩
  obtain ⟨jk, hjk⟩ : ∃ x, x = joinKs l xs ys zs key l2 xs2 ys2 zs2 := ⟨_, rfl⟩
  obtain ⟨jv, hjv⟩ : ∃ x, x = joinVs l xs ys zs key l2 xs2 ys2 zs2 := ⟨_, rfl⟩
  obtain ⟨jc, hjc⟩ : ∃ x, x = joinCs l xs ys zs key l2 xs2 ys2 zs2 := ⟨_, rfl⟩
  obtain ⟨je, hje⟩ : ∃ x, x = joinE l xs ys zs key l2 xs2 ys2 zs2 := ⟨_, rfl⟩
  rw [← hjl, ← hjk, ← hjv, ← hjc, ← hje] at cJ cK
  clear hjl hjk hjv hjc hje
  clear hn hxs hmin hn' hys hmin' hn'' hzs hmin'' hK hV hC hm hm' hm'' IX IY IZ g1 g1' g1'' g2 g2' g2'' g3 g3' g3'' ho hxs2 hp hminp ho' hys2 hp' hminp' ho'' hzs2 hp'' hminp'' hK2 hV2 hC2 IX2 IY2 IZ2 k1 k1' k1'' k2 k2' k2'' k3 k3' k3'' hkey hV0 hV3 hV4 hB0 hB1 hB2 T3 T4 hX4 hY4
  obtain ⟨⟨q00, q01, q02, q03⟩, -⟩ := hX0
  obtain ⟨⟨p00, p01, p02, p03⟩, -⟩ := hY0
  obtain ⟨⟨p10, p11, p12, p13⟩, -⟩ := hY1
  obtain ⟨⟨q20, q21, q22, q23⟩, g20, g21, g22, g23⟩ := hX2
  obtain ⟨⟨p30, p31, p32, p33⟩, g30, g31, g32, g33⟩ := hY3
  clear hX1 hY2 hX3
  by_cases hok : standsN l xs ys zs = true ∧ xs.length = 9
  · have cRC := cRC0 hok
    have hcu : cutOk l xs ys zs = true := by unfold cutOk; rw [hok.1, decide_eq_true hok.2]; rfl
    have cC : ∀ V {h : Nat}, NodeIn V h l a m c a' m' c' a'' m'' c'' xs ys zs → Calls Try.prog 24 #[.agg #[.bool l, .slice a m c, .slice a' m' c', .slice a'' m'' c'']] V fun x w' => Answers2 V x w' l (xs.take 4) (ys.take 4) (zs.take 5) (xs.getD 4 ⟨#[]⟩) (xs.drop (cutFrom l)) (ys.drop 4) (zs.drop 5) 0 := fun V h N => by
      have := cC0 V N
      unfold cutL cutAK cutAV cutAC cutM cutBK cutBV cutBC cutEr at this
      rw [hcu] at this
      simp only [if_true, Bool.true_and] at this
      exact this
    have h9 : m = 9 := by rw [HM.out]; exact hok.2
    rw [hok.1] at cS
    clear hok hcu cC0 cB cRC0
    generalize xs.getD 4 ⟨#[]⟩ = mid at *
    generalize xs.take 4 = K1 at *
    generalize ys.take 4 = Y1 at *
    generalize zs.take 5 = C1 at *
    generalize xs.drop (cutFrom l) = K2 at *
    generalize ys.drop 4 = Y2 at *
    generalize zs.drop 5 = C2 at *
    clear HM
    subst h9
    go_enter Try.func6, Try.ntmps6
    go_wp2
    rw [← hW]
    clear hW
    refine region_worlds (by kernel_rfl) [1, 3, 4, 5] (cutsV (.agg #[.bool l, .slice a n c, .slice a' n' c', .slice a'' n'' c'']) (.agg #[.bool l, .slice a 9 c, .slice a' m' c', .slice a'' m'' c'']) (.agg #[.bool l2, .slice b o f, .slice b' o' f', .slice b'' o'' f'']) (.agg #[.bool l2, .slice b p f, .slice b' p' f', .slice b'' p'' f''])) (worlds5 V0 V1 V2 V3 V4) (by kernel_rfl) (by kernel_rfl) HV0.out.symm ?step 6 rfl ?done
    case step =>
      intro i o ho kk a2 hkk hmay hdf hsz hdep hsame
      match i, ho with
      | 0, ho =>
        cases ho
        have h3 := (hsame 3 rfl)
        match kk, hkk, hmay with
        | 0, _, hq => first | (cases hq; done) | (exact val_op rfl (wanted_free rfl) (by clear hdep hsame hsz hdf; (try simp only [cutsV, worlds5]); go_simp) rfl rfl)
        | 1, _, hq => first | (cases hq; done) | (exact val_op rfl (wanted_free rfl) (by clear hdep hsame hsz hdf; (try simp only [cutsV, worlds5]); go_simp) rfl rfl)
        | 2, _, hq => first | (cases hq; done) | (exact val_op rfl (wanted_free rfl) (by clear hdep hsame hsz hdf; (try simp only [cutsV, worlds5]); go_simp) rfl rfl)
        | 3, _, hq => first | (cases hq; done) | (exact val_op rfl (wanted_free rfl) (by clear hdep hsame hsz hdf; (try simp only [cutsV, worlds5]); go_simp) rfl rfl)
        | 4, _, hq => first | (cases hq; done) | (exact val_op rfl (wanted_free rfl) (by clear hdep hsame hsz hdf; (try simp only [cutsV, worlds5]); go_simp) rfl rfl)
        | kk + 5, hkk, _ => simp at hkk
      | 1, ho =>
        cases ho
        have h18 := (hdep 0 _ 18 rfl rfl rfl)
        simp only [cutsV] at h18
        match kk, hkk, hmay with
        | 0, _, _ => exact val_call rfl (wanted_free rfl) (by clear hdep hsame hsz hdf; (try simp only [worlds5]); go_simp) (hcall1.mono fun e w hh => ⟨hh.1, hh.2⟩)
        | 1, _, hq => cases hq
        | 2, _, hq => cases hq
        | 3, _, hq => cases hq
        | 4, _, hq => cases hq
        | kk + 5, hkk, _ => simp at hkk
      | 2, ho =>
        cases ho
        have h5 := (hsame 5 rfl)
        match kk, hkk, hmay with
        | 0, _, hq => first | (cases hq; done) | (exact val_op rfl (wanted_free rfl) (by clear hdep hsame hsz hdf; (try simp only [cutsV, worlds5]); go_simp) rfl rfl)
        | 1, _, hq => first | (cases hq; done) | (exact val_op rfl (wanted_free rfl) (by clear hdep hsame hsz hdf; (try simp only [cutsV, worlds5]); go_simp) rfl rfl)
        | 2, _, hq => first | (cases hq; done) | (exact val_op rfl (wanted_free rfl) (by clear hdep hsame hsz hdf; (try simp only [cutsV, worlds5]); go_simp) rfl rfl)
        | 3, _, hq => first | (cases hq; done) | (exact val_op rfl (wanted_free rfl) (by clear hdep hsame hsz hdf; (try simp only [cutsV, worlds5]); go_simp) rfl rfl)
        | 4, _, hq => first | (cases hq; done) | (exact val_op rfl (wanted_free rfl) (by clear hdep hsame hsz hdf; (try simp only [cutsV, worlds5]); go_simp) rfl rfl)
        | kk + 5, hkk, _ => simp at hkk
      | 3, ho =>
        cases ho
        have h20 := (hdep 2 _ 20 rfl rfl rfl)
        simp only [cutsV] at h20
        match kk, hkk, hmay with
        | 0, _, hq => cases hq
        | 1, _, _ => exact val_call rfl (wanted_free rfl) (by clear hdep hsame hsz hdf; (try simp only [worlds5]); go_simp) (hcall3.mono fun e w hh => ⟨hh.1, hh.2⟩)
        | 2, _, hq => cases hq
        | 3, _, hq => cases hq
        | 4, _, hq => cases hq
        | kk + 5, hkk, _ => simp at hkk
      | 4, ho =>
        cases ho
        have h3 := (hsame 3 rfl)
        have h19 := (hdep 1 _ 19 rfl rfl rfl)
        simp only [cutsV] at h19
        match kk, hkk, hmay with
        | 0, _, hq => cases hq
        | 1, _, hq => cases hq
        | 2, _, _ => exact val_skip rfl (wanted_free rfl) rfl (by clear hdep hsame hsz hdf; simp only [worlds5]; go_simp; try exact hst3.out) rfl
        | 3, _, hq => cases hq
        | 4, _, hq => cases hq
        | kk + 5, hkk, _ => simp at hkk
      | 5, ho =>
        cases ho
        have h5 := (hsame 5 rfl)
        have h21 := (hdep 3 _ 21 rfl rfl rfl)
        simp only [cutsV] at h21
        match kk, hkk, hmay with
        | 0, _, hq => cases hq
        | 1, _, hq => cases hq
        | 2, _, hq => cases hq
        | 3, _, _ => exact val_skip rfl (wanted_free rfl) rfl (by clear hdep hsame hsz hdf; simp only [worlds5]; go_simp; try exact hst4.out) rfl
        | 4, _, hq => cases hq
        | kk + 5, hkk, _ => simp at hkk
      | kk + 6, ho => simp at ho
    case done =>
      simp [filledN, cutsV, worlds5]
      clear q00 q01 q02 q03 p00 p01 p02 p03 p10 p11 p12 p13 q20 q21 q22 q23 g20 g21 g22 g23 p30 p31 p32 p33 g30 g31 g32 g33 hcall1 hcall3 hst3 hst4 HV0
      obtain ⟨⟨q0, q1, q2, q3⟩, -⟩ := NN.box
      obtain ⟨⟨p0, p1, p2, p3⟩, -⟩ := MM.box
      have tl1 : True := trivial
      have tl2 : True := trivial
      have tl3 : True := trivial
      go_wp2_with (first
        | (go_at_call 22; refine (cJ _ NN MM).mono ?_; rintro y w1 ⟨k1, a1, d1, k1', a1', d1', k1'', a1'', d1'', rfl, e1, e2, e3, i1, i2, i3, -, -, -, hb⟩; have hA : Below w1.heap.size w1 (w1.alloc (.cells #[.bool jl, .slice a1 k1 d1, .slice a1' k1' d1', .slice a1'' k1'' d1''] 25)) := (Below.refl _ _).alloc (Nat.le_refl _) _; have J := nodeIn_new w1 w1.heap.size jl rfl e1 e2 e3 i1 i2 i3; replace NN := (NN.below hb).below hA; replace MM := (MM.below hb).below hA; replace HB := Below.tr (Below.tr HB hb) hA; clear q0 q1 q2 q3 p0 p1 p2 p3; obtain ⟨⟨q0, q1, q2, q3⟩, -⟩ := NN.box; obtain ⟨⟨p0, p1, p2, p3⟩, -⟩ := MM.box; clear hb hA e1 e2 e3 i1 i2 i3)
        | (go_at_call 23; refine (cK _ NN MM).mono ?_; rintro y w2 ⟨k2, a2, d2, k2', a2', d2', k2'', a2'', d2'', rfl, e1, e2, e3, i1, i2, i3, -, -, -, hb⟩; have hA : Below w2.heap.size w2 (w2.alloc (.cells #[.bool jl, .slice a2 k2 d2, .slice a2' k2' d2', .slice a2'' k2'' d2''] 25)) := (Below.refl _ _).alloc (Nat.le_refl _) _; have K := nodeIn_new w2 w2.heap.size jl rfl e1 e2 e3 i1 i2 i3; clear MM; replace NN := (NN.below hb).below hA; replace J := (J.below hb).below hA; replace HB := Below.tr (Below.tr HB hb) hA; clear q0 q1 q2 q3 p0 p1 p2 p3; obtain ⟨⟨q0, q1, q2, q3⟩, -⟩ := NN.box; obtain ⟨⟨j0, j1, j2, j3⟩, -⟩ := J.box; obtain ⟨⟨r0, r1, r2, r3⟩, -⟩ := K.box; clear hb hA e1 e2 e3 i1 i2 i3)
        | (go_at_call 17; have _t := tl1; refine (like_in J K).mono ?_; rintro y w3 ⟨rfl, hb⟩; replace NN := NN.below hb; replace HB := Below.tr HB hb; clear q0 q1 q2 q3 j0 j1 j2 j3 r0 r1 r2 r3; clear J K; obtain ⟨⟨q0, q1, q2, q3⟩, -⟩ := NN.box; clear hb _t tl1)
        | (go_at_call 12; refine (alive07_any _).mono ?_; rintro y w4 ⟨rfl, hb⟩; replace NN := NN.below hb; replace HB := Below.tr HB hb; clear q0 q1 q2 q3; obtain ⟨⟨q0, q1, q2, q3⟩, -⟩ := NN.box; clear hb)
        | (go_at_call 24; refine (cC _ NN).mono ?_; rintro y w5 ⟨k3, a3, d3, k3', a3', d3', k3'', a3'', d3'', k4, a4, d4, k4', a4', d4', k4'', a4'', d4'', rfl, e1, e2, e3, e4, e5, e6, i1, i2, i3, i4, i5, i6, hb⟩; have hA : Below w5.heap.size w5 (w5.alloc (.cells #[.bool l, .slice a3 k3 d3, .slice a3' k3' d3', .slice a3'' k3'' d3''] 25)) := (Below.refl _ _).alloc (Nat.le_refl _) _; have hA2 : Below (w5.alloc (.cells #[.bool l, .slice a3 k3 d3, .slice a3' k3' d3', .slice a3'' k3'' d3''] 25)).heap.size (w5.alloc (.cells #[.bool l, .slice a3 k3 d3, .slice a3' k3' d3', .slice a3'' k3'' d3''] 25)) ((w5.alloc (.cells #[.bool l, .slice a3 k3 d3, .slice a3' k3' d3', .slice a3'' k3'' d3''] 25)).alloc (.cells #[.bool l, .slice a4 k4 d4, .slice a4' k4' d4', .slice a4'' k4'' d4''] 25)) := (Below.refl _ _).alloc (Nat.le_refl _) _; have X := (nodeIn_new w5 w5.heap.size l rfl e1 e2 e3 i1 i2 i3).below hA2; have Y := nodeIn_new (w5.alloc (.cells #[.bool l, .slice a3 k3 d3, .slice a3' k3' d3', .slice a3'' k3'' d3''] 25)) (w5.heap.size + 1) l (by simp) e4 e5 e6 (i4.below hA) (i5.below hA) (i6.below hA); replace NN := ((NN.below hb).below hA).below hA2; replace HB := Below.tr (Below.tr (Below.tr HB hb) hA) hA2; clear q0 q1 q2 q3; obtain ⟨⟨q0, q1, q2, q3⟩, -⟩ := NN.box; obtain ⟨⟨j0, j1, j2, j3⟩, -⟩ := X.box; obtain ⟨⟨r0, r1, r2, r3⟩, -⟩ := Y.box; clear hb hA hA2 e1 e2 e3 e4 e5 e6 i1 i2 i3 i4 i5 i6)
        | (go_at_call 25; refine (cS _ NN).mono ?_; rintro y w6 ⟨rfl, hb⟩; replace NN := NN.below hb; replace X := X.below hb; replace Y := Y.below hb; replace HB := Below.tr HB hb; clear q0 q1 q2 q3 j0 j1 j2 j3 r0 r1 r2 r3; obtain ⟨⟨q0, q1, q2, q3⟩, -⟩ := NN.box; obtain ⟨⟨j0, j1, j2, j3⟩, -⟩ := X.box; obtain ⟨⟨r0, r1, r2, r3⟩, -⟩ := Y.box; clear hb)
        | (go_at_call 26; refine (cRC _ NN).mono ?_; rintro y w7 ⟨k5, a5, d5, k5', a5', d5', k5'', a5'', d5'', k6, a6, d6, k6', a6', d6', k6'', a6'', d6'', rfl, e1, e2, e3, e4, e5, e6, i1, i2, i3, i4, i5, i6, hb⟩; have hA : Below w7.heap.size w7 (w7.alloc (.cells #[.bool l, .slice a5 k5 d5, .slice a5' k5' d5', .slice a5'' k5'' d5''] 25)) := (Below.refl _ _).alloc (Nat.le_refl _) _; have hA2 : Below (w7.alloc (.cells #[.bool l, .slice a5 k5 d5, .slice a5' k5' d5', .slice a5'' k5'' d5''] 25)).heap.size (w7.alloc (.cells #[.bool l, .slice a5 k5 d5, .slice a5' k5' d5', .slice a5'' k5'' d5''] 25)) ((w7.alloc (.cells #[.bool l, .slice a5 k5 d5, .slice a5' k5' d5', .slice a5'' k5'' d5''] 25)).alloc (.cells #[.bool l, .slice a6 k6 d6, .slice a6' k6' d6', .slice a6'' k6'' d6''] 25)) := (Below.refl _ _).alloc (Nat.le_refl _) _; have P := (nodeIn_new w7 w7.heap.size l rfl e1 e2 e3 i1 i2 i3).below hA2; have Q := nodeIn_new (w7.alloc (.cells #[.bool l, .slice a5 k5 d5, .slice a5' k5' d5', .slice a5'' k5'' d5''] 25)) (w7.heap.size + 1) l (by simp) e4 e5 e6 (i4.below hA) (i5.below hA) (i6.below hA); clear NN; replace X := ((X.below hb).below hA).below hA2; replace Y := ((Y.below hb).below hA).below hA2; replace HB := Below.tr (Below.tr (Below.tr HB hb) hA) hA2; clear q0 q1 q2 q3 j0 j1 j2 j3 r0 r1 r2 r3; obtain ⟨⟨j0, j1, j2, j3⟩, -⟩ := X.box; obtain ⟨⟨r0, r1, r2, r3⟩, -⟩ := Y.box; obtain ⟨⟨s0, s1, s2, s3⟩, -⟩ := P.box; obtain ⟨⟨t0, t1, t2, t3⟩, -⟩ := Q.box; clear hb hA hA2 e1 e2 e3 e4 e5 e6 i1 i2 i3 i4 i5 i6)
        | (go_at_call 17; have _t := tl2; refine (like_in X P).mono ?_; rintro y w8 ⟨rfl, hb⟩; replace Y := Y.below hb; replace Q := Q.below hb; replace HB := Below.tr HB hb; clear j0 j1 j2 j3 r0 r1 r2 r3 s0 s1 s2 s3 t0 t1 t2 t3; clear X P; obtain ⟨⟨r0, r1, r2, r3⟩, -⟩ := Y.box; obtain ⟨⟨t0, t1, t2, t3⟩, -⟩ := Q.box; clear hb _t tl2)
        | (go_at_call 17; have _t := tl3; refine (like_in Y Q).mono ?_; rintro y w9 ⟨rfl, hb⟩; replace HB := Below.tr HB hb; clear r0 r1 r2 r3 t0 t1 t2 t3; clear Y Q; clear hb _t tl3)
        )
      go_ret
      exact ⟨rfl, HB⟩
  · have cC := cB hok
    clear cB cC0 cRC0
    cases hs : standsN l xs ys zs with
    | false =>
      rw [hs] at cS
      clear hs hok
      go_enter Try.func6, Try.ntmps6
      go_wp2
      rw [← hW]
      clear hW
      refine region_worlds (by kernel_rfl) [1, 3, 4, 5] (cutsV (.agg #[.bool l, .slice a n c, .slice a' n' c', .slice a'' n'' c'']) (.agg #[.bool l, .slice a m c, .slice a' m' c', .slice a'' m'' c'']) (.agg #[.bool l2, .slice b o f, .slice b' o' f', .slice b'' o'' f'']) (.agg #[.bool l2, .slice b p f, .slice b' p' f', .slice b'' p'' f''])) (worlds5 V0 V1 V2 V3 V4) (by kernel_rfl) (by kernel_rfl) HV0.out.symm ?step 6 rfl ?done
      case step =>
        intro i o ho kk a2 hkk hmay hdf hsz hdep hsame
        match i, ho with
        | 0, ho =>
          cases ho
          have h3 := (hsame 3 rfl)
          match kk, hkk, hmay with
          | 0, _, hq => first | (cases hq; done) | (exact val_op rfl (wanted_free rfl) (by clear hdep hsame hsz hdf; (try simp only [cutsV, worlds5]); go_simp) rfl rfl)
          | 1, _, hq => first | (cases hq; done) | (exact val_op rfl (wanted_free rfl) (by clear hdep hsame hsz hdf; (try simp only [cutsV, worlds5]); go_simp) rfl rfl)
          | 2, _, hq => first | (cases hq; done) | (exact val_op rfl (wanted_free rfl) (by clear hdep hsame hsz hdf; (try simp only [cutsV, worlds5]); go_simp) rfl rfl)
          | 3, _, hq => first | (cases hq; done) | (exact val_op rfl (wanted_free rfl) (by clear hdep hsame hsz hdf; (try simp only [cutsV, worlds5]); go_simp) rfl rfl)
          | 4, _, hq => first | (cases hq; done) | (exact val_op rfl (wanted_free rfl) (by clear hdep hsame hsz hdf; (try simp only [cutsV, worlds5]); go_simp) rfl rfl)
          | kk + 5, hkk, _ => simp at hkk
        | 1, ho =>
          cases ho
          have h18 := (hdep 0 _ 18 rfl rfl rfl)
          simp only [cutsV] at h18
          match kk, hkk, hmay with
          | 0, _, _ => exact val_call rfl (wanted_free rfl) (by clear hdep hsame hsz hdf; (try simp only [worlds5]); go_simp) (hcall1.mono fun e w hh => ⟨hh.1, hh.2⟩)
          | 1, _, hq => cases hq
          | 2, _, hq => cases hq
          | 3, _, hq => cases hq
          | 4, _, hq => cases hq
          | kk + 5, hkk, _ => simp at hkk
        | 2, ho =>
          cases ho
          have h5 := (hsame 5 rfl)
          match kk, hkk, hmay with
          | 0, _, hq => first | (cases hq; done) | (exact val_op rfl (wanted_free rfl) (by clear hdep hsame hsz hdf; (try simp only [cutsV, worlds5]); go_simp) rfl rfl)
          | 1, _, hq => first | (cases hq; done) | (exact val_op rfl (wanted_free rfl) (by clear hdep hsame hsz hdf; (try simp only [cutsV, worlds5]); go_simp) rfl rfl)
          | 2, _, hq => first | (cases hq; done) | (exact val_op rfl (wanted_free rfl) (by clear hdep hsame hsz hdf; (try simp only [cutsV, worlds5]); go_simp) rfl rfl)
          | 3, _, hq => first | (cases hq; done) | (exact val_op rfl (wanted_free rfl) (by clear hdep hsame hsz hdf; (try simp only [cutsV, worlds5]); go_simp) rfl rfl)
          | 4, _, hq => first | (cases hq; done) | (exact val_op rfl (wanted_free rfl) (by clear hdep hsame hsz hdf; (try simp only [cutsV, worlds5]); go_simp) rfl rfl)
          | kk + 5, hkk, _ => simp at hkk
        | 3, ho =>
          cases ho
          have h20 := (hdep 2 _ 20 rfl rfl rfl)
          simp only [cutsV] at h20
          match kk, hkk, hmay with
          | 0, _, hq => cases hq
          | 1, _, _ => exact val_call rfl (wanted_free rfl) (by clear hdep hsame hsz hdf; (try simp only [worlds5]); go_simp) (hcall3.mono fun e w hh => ⟨hh.1, hh.2⟩)
          | 2, _, hq => cases hq
          | 3, _, hq => cases hq
          | 4, _, hq => cases hq
          | kk + 5, hkk, _ => simp at hkk
        | 4, ho =>
          cases ho
          have h3 := (hsame 3 rfl)
          have h19 := (hdep 1 _ 19 rfl rfl rfl)
          simp only [cutsV] at h19
          match kk, hkk, hmay with
          | 0, _, hq => cases hq
          | 1, _, hq => cases hq
          | 2, _, _ => exact val_skip rfl (wanted_free rfl) rfl (by clear hdep hsame hsz hdf; simp only [worlds5]; go_simp; try exact hst3.out) rfl
          | 3, _, hq => cases hq
          | 4, _, hq => cases hq
          | kk + 5, hkk, _ => simp at hkk
        | 5, ho =>
          cases ho
          have h5 := (hsame 5 rfl)
          have h21 := (hdep 3 _ 21 rfl rfl rfl)
          simp only [cutsV] at h21
          match kk, hkk, hmay with
          | 0, _, hq => cases hq
          | 1, _, hq => cases hq
          | 2, _, hq => cases hq
          | 3, _, _ => exact val_skip rfl (wanted_free rfl) rfl (by clear hdep hsame hsz hdf; simp only [worlds5]; go_simp; try exact hst4.out) rfl
          | 4, _, hq => cases hq
          | kk + 5, hkk, _ => simp at hkk
        | kk + 6, ho => simp at ho
      case done =>
        simp [filledN, cutsV, worlds5]
        clear q00 q01 q02 q03 p00 p01 p02 p03 p10 p11 p12 p13 q20 q21 q22 q23 g20 g21 g22 g23 p30 p31 p32 p33 g30 g31 g32 g33 hcall1 hcall3 hst3 hst4 HV0
        obtain ⟨⟨q0, q1, q2, q3⟩, -⟩ := NN.box
        obtain ⟨⟨p0, p1, p2, p3⟩, -⟩ := MM.box
        have tl1 : True := trivial
        have tl2 : True := trivial
        have tl3 : True := trivial
        go_wp2_with (first
          | (go_at_call 22; refine (cJ _ NN MM).mono ?_; rintro y w1 ⟨k1, a1, d1, k1', a1', d1', k1'', a1'', d1'', rfl, e1, e2, e3, i1, i2, i3, -, -, -, hb⟩; have hA : Below w1.heap.size w1 (w1.alloc (.cells #[.bool jl, .slice a1 k1 d1, .slice a1' k1' d1', .slice a1'' k1'' d1''] 25)) := (Below.refl _ _).alloc (Nat.le_refl _) _; have J := nodeIn_new w1 w1.heap.size jl rfl e1 e2 e3 i1 i2 i3; replace NN := (NN.below hb).below hA; replace MM := (MM.below hb).below hA; replace HB := Below.tr (Below.tr HB hb) hA; clear q0 q1 q2 q3 p0 p1 p2 p3; obtain ⟨⟨q0, q1, q2, q3⟩, -⟩ := NN.box; obtain ⟨⟨p0, p1, p2, p3⟩, -⟩ := MM.box; clear hb hA e1 e2 e3 i1 i2 i3)
          | (go_at_call 23; refine (cK _ NN MM).mono ?_; rintro y w2 ⟨k2, a2, d2, k2', a2', d2', k2'', a2'', d2'', rfl, e1, e2, e3, i1, i2, i3, -, -, -, hb⟩; have hA : Below w2.heap.size w2 (w2.alloc (.cells #[.bool jl, .slice a2 k2 d2, .slice a2' k2' d2', .slice a2'' k2'' d2''] 25)) := (Below.refl _ _).alloc (Nat.le_refl _) _; have K := nodeIn_new w2 w2.heap.size jl rfl e1 e2 e3 i1 i2 i3; clear MM; replace NN := (NN.below hb).below hA; replace J := (J.below hb).below hA; replace HB := Below.tr (Below.tr HB hb) hA; clear q0 q1 q2 q3 p0 p1 p2 p3; obtain ⟨⟨q0, q1, q2, q3⟩, -⟩ := NN.box; obtain ⟨⟨j0, j1, j2, j3⟩, -⟩ := J.box; obtain ⟨⟨r0, r1, r2, r3⟩, -⟩ := K.box; clear hb hA e1 e2 e3 i1 i2 i3)
          | (go_at_call 17; have _t := tl1; refine (like_in J K).mono ?_; rintro y w3 ⟨rfl, hb⟩; replace NN := NN.below hb; replace HB := Below.tr HB hb; clear q0 q1 q2 q3 j0 j1 j2 j3 r0 r1 r2 r3; clear J K; obtain ⟨⟨q0, q1, q2, q3⟩, -⟩ := NN.box; clear hb _t tl1)
          | (go_at_call 12; refine (alive07_any _).mono ?_; rintro y w4 ⟨rfl, hb⟩; replace NN := NN.below hb; replace HB := Below.tr HB hb; clear q0 q1 q2 q3; obtain ⟨⟨q0, q1, q2, q3⟩, -⟩ := NN.box; clear hb)
          | (go_at_call 24; refine (cC _ NN).mono ?_; rintro y w5 ⟨k3, a3, d3, k3', a3', d3', k3'', a3'', d3'', k4, a4, d4, k4', a4', d4', k4'', a4'', d4'', rfl, e1, e2, e3, e4, e5, e6, i1, i2, i3, i4, i5, i6, hb⟩; have hA : Below w5.heap.size w5 (w5.alloc (.cells #[.bool false, .slice a3 k3 d3, .slice a3' k3' d3', .slice a3'' k3'' d3''] 25)) := (Below.refl _ _).alloc (Nat.le_refl _) _; have hA2 : Below (w5.alloc (.cells #[.bool false, .slice a3 k3 d3, .slice a3' k3' d3', .slice a3'' k3'' d3''] 25)).heap.size (w5.alloc (.cells #[.bool false, .slice a3 k3 d3, .slice a3' k3' d3', .slice a3'' k3'' d3''] 25)) ((w5.alloc (.cells #[.bool false, .slice a3 k3 d3, .slice a3' k3' d3', .slice a3'' k3'' d3''] 25)).alloc (.cells #[.bool false, .slice a4 k4 d4, .slice a4' k4' d4', .slice a4'' k4'' d4''] 25)) := (Below.refl _ _).alloc (Nat.le_refl _) _; have X := (nodeIn_new w5 w5.heap.size false rfl e1 e2 e3 i1 i2 i3).below hA2; have Y := nodeIn_new (w5.alloc (.cells #[.bool false, .slice a3 k3 d3, .slice a3' k3' d3', .slice a3'' k3'' d3''] 25)) (w5.heap.size + 1) false (by simp) e4 e5 e6 (i4.below hA) (i5.below hA) (i6.below hA); replace NN := ((NN.below hb).below hA).below hA2; replace HB := Below.tr (Below.tr (Below.tr HB hb) hA) hA2; clear q0 q1 q2 q3; obtain ⟨⟨q0, q1, q2, q3⟩, -⟩ := NN.box; obtain ⟨⟨j0, j1, j2, j3⟩, -⟩ := X.box; obtain ⟨⟨r0, r1, r2, r3⟩, -⟩ := Y.box; clear hb hA hA2 e1 e2 e3 e4 e5 e6 i1 i2 i3 i4 i5 i6)
          | (go_at_call 25; refine (cS _ NN).mono ?_; rintro y w6 ⟨rfl, hb⟩; replace NN := NN.below hb; replace X := X.below hb; replace Y := Y.below hb; replace HB := Below.tr HB hb; clear q0 q1 q2 q3 j0 j1 j2 j3 r0 r1 r2 r3; obtain ⟨⟨q0, q1, q2, q3⟩, -⟩ := NN.box; obtain ⟨⟨j0, j1, j2, j3⟩, -⟩ := X.box; obtain ⟨⟨r0, r1, r2, r3⟩, -⟩ := Y.box; clear hb)
          | (go_at_call 17; have _t := tl2; refine (like_none X).mono ?_; rintro y w7 ⟨rfl, hb⟩; replace Y := Y.below hb; replace HB := Below.tr HB hb; clear q0 q1 q2 q3 j0 j1 j2 j3 r0 r1 r2 r3; clear X NN; obtain ⟨⟨r0, r1, r2, r3⟩, -⟩ := Y.box; clear hb _t tl2)
          | (go_at_call 17; have _t := tl3; refine (like_none Y).mono ?_; rintro y w8 ⟨rfl, hb⟩; replace HB := Below.tr HB hb; clear r0 r1 r2 r3; clear Y; clear hb _t tl3)
          )
        go_ret
        exact ⟨rfl, HB⟩
    | true =>
      have h9 : ¬ m = 9 := by rw [HM.out]; exact fun h => hok ⟨hs, h⟩
      rw [hs] at cS
      clear hs hok HM
      go_enter Try.func6, Try.ntmps6
      go_wp2
      rw [← hW]
      clear hW
      refine region_worlds (by kernel_rfl) [1, 3, 4, 5] (cutsV (.agg #[.bool l, .slice a n c, .slice a' n' c', .slice a'' n'' c'']) (.agg #[.bool l, .slice a m c, .slice a' m' c', .slice a'' m'' c'']) (.agg #[.bool l2, .slice b o f, .slice b' o' f', .slice b'' o'' f'']) (.agg #[.bool l2, .slice b p f, .slice b' p' f', .slice b'' p'' f''])) (worlds5 V0 V1 V2 V3 V4) (by kernel_rfl) (by kernel_rfl) HV0.out.symm ?step 6 rfl ?done
      case step =>
        intro i o ho kk a2 hkk hmay hdf hsz hdep hsame
        match i, ho with
        | 0, ho =>
          cases ho
          have h3 := (hsame 3 rfl)
          match kk, hkk, hmay with
          | 0, _, hq => first | (cases hq; done) | (exact val_op rfl (wanted_free rfl) (by clear hdep hsame hsz hdf; (try simp only [cutsV, worlds5]); go_simp) rfl rfl)
          | 1, _, hq => first | (cases hq; done) | (exact val_op rfl (wanted_free rfl) (by clear hdep hsame hsz hdf; (try simp only [cutsV, worlds5]); go_simp) rfl rfl)
          | 2, _, hq => first | (cases hq; done) | (exact val_op rfl (wanted_free rfl) (by clear hdep hsame hsz hdf; (try simp only [cutsV, worlds5]); go_simp) rfl rfl)
          | 3, _, hq => first | (cases hq; done) | (exact val_op rfl (wanted_free rfl) (by clear hdep hsame hsz hdf; (try simp only [cutsV, worlds5]); go_simp) rfl rfl)
          | 4, _, hq => first | (cases hq; done) | (exact val_op rfl (wanted_free rfl) (by clear hdep hsame hsz hdf; (try simp only [cutsV, worlds5]); go_simp) rfl rfl)
          | kk + 5, hkk, _ => simp at hkk
        | 1, ho =>
          cases ho
          have h18 := (hdep 0 _ 18 rfl rfl rfl)
          simp only [cutsV] at h18
          match kk, hkk, hmay with
          | 0, _, _ => exact val_call rfl (wanted_free rfl) (by clear hdep hsame hsz hdf; (try simp only [worlds5]); go_simp) (hcall1.mono fun e w hh => ⟨hh.1, hh.2⟩)
          | 1, _, hq => cases hq
          | 2, _, hq => cases hq
          | 3, _, hq => cases hq
          | 4, _, hq => cases hq
          | kk + 5, hkk, _ => simp at hkk
        | 2, ho =>
          cases ho
          have h5 := (hsame 5 rfl)
          match kk, hkk, hmay with
          | 0, _, hq => first | (cases hq; done) | (exact val_op rfl (wanted_free rfl) (by clear hdep hsame hsz hdf; (try simp only [cutsV, worlds5]); go_simp) rfl rfl)
          | 1, _, hq => first | (cases hq; done) | (exact val_op rfl (wanted_free rfl) (by clear hdep hsame hsz hdf; (try simp only [cutsV, worlds5]); go_simp) rfl rfl)
          | 2, _, hq => first | (cases hq; done) | (exact val_op rfl (wanted_free rfl) (by clear hdep hsame hsz hdf; (try simp only [cutsV, worlds5]); go_simp) rfl rfl)
          | 3, _, hq => first | (cases hq; done) | (exact val_op rfl (wanted_free rfl) (by clear hdep hsame hsz hdf; (try simp only [cutsV, worlds5]); go_simp) rfl rfl)
          | 4, _, hq => first | (cases hq; done) | (exact val_op rfl (wanted_free rfl) (by clear hdep hsame hsz hdf; (try simp only [cutsV, worlds5]); go_simp) rfl rfl)
          | kk + 5, hkk, _ => simp at hkk
        | 3, ho =>
          cases ho
          have h20 := (hdep 2 _ 20 rfl rfl rfl)
          simp only [cutsV] at h20
          match kk, hkk, hmay with
          | 0, _, hq => cases hq
          | 1, _, _ => exact val_call rfl (wanted_free rfl) (by clear hdep hsame hsz hdf; (try simp only [worlds5]); go_simp) (hcall3.mono fun e w hh => ⟨hh.1, hh.2⟩)
          | 2, _, hq => cases hq
          | 3, _, hq => cases hq
          | 4, _, hq => cases hq
          | kk + 5, hkk, _ => simp at hkk
        | 4, ho =>
          cases ho
          have h3 := (hsame 3 rfl)
          have h19 := (hdep 1 _ 19 rfl rfl rfl)
          simp only [cutsV] at h19
          match kk, hkk, hmay with
          | 0, _, hq => cases hq
          | 1, _, hq => cases hq
          | 2, _, _ => exact val_skip rfl (wanted_free rfl) rfl (by clear hdep hsame hsz hdf; simp only [worlds5]; go_simp; try exact hst3.out) rfl
          | 3, _, hq => cases hq
          | 4, _, hq => cases hq
          | kk + 5, hkk, _ => simp at hkk
        | 5, ho =>
          cases ho
          have h5 := (hsame 5 rfl)
          have h21 := (hdep 3 _ 21 rfl rfl rfl)
          simp only [cutsV] at h21
          match kk, hkk, hmay with
          | 0, _, hq => cases hq
          | 1, _, hq => cases hq
          | 2, _, hq => cases hq
          | 3, _, _ => exact val_skip rfl (wanted_free rfl) rfl (by clear hdep hsame hsz hdf; simp only [worlds5]; go_simp; try exact hst4.out) rfl
          | 4, _, hq => cases hq
          | kk + 5, hkk, _ => simp at hkk
        | kk + 6, ho => simp at ho
      case done =>
        simp [filledN, cutsV, worlds5]
        clear q00 q01 q02 q03 p00 p01 p02 p03 p10 p11 p12 p13 q20 q21 q22 q23 g20 g21 g22 g23 p30 p31 p32 p33 g30 g31 g32 g33 hcall1 hcall3 hst3 hst4 HV0
        obtain ⟨⟨q0, q1, q2, q3⟩, -⟩ := NN.box
        obtain ⟨⟨p0, p1, p2, p3⟩, -⟩ := MM.box
        have tl1 : True := trivial
        have tl2 : True := trivial
        have tl3 : True := trivial
        go_wp2_with (first
          | (go_at_call 22; refine (cJ _ NN MM).mono ?_; rintro y w1 ⟨k1, a1, d1, k1', a1', d1', k1'', a1'', d1'', rfl, e1, e2, e3, i1, i2, i3, -, -, -, hb⟩; have hA : Below w1.heap.size w1 (w1.alloc (.cells #[.bool jl, .slice a1 k1 d1, .slice a1' k1' d1', .slice a1'' k1'' d1''] 25)) := (Below.refl _ _).alloc (Nat.le_refl _) _; have J := nodeIn_new w1 w1.heap.size jl rfl e1 e2 e3 i1 i2 i3; replace NN := (NN.below hb).below hA; replace MM := (MM.below hb).below hA; replace HB := Below.tr (Below.tr HB hb) hA; clear q0 q1 q2 q3 p0 p1 p2 p3; obtain ⟨⟨q0, q1, q2, q3⟩, -⟩ := NN.box; obtain ⟨⟨p0, p1, p2, p3⟩, -⟩ := MM.box; clear hb hA e1 e2 e3 i1 i2 i3)
          | (go_at_call 23; refine (cK _ NN MM).mono ?_; rintro y w2 ⟨k2, a2, d2, k2', a2', d2', k2'', a2'', d2'', rfl, e1, e2, e3, i1, i2, i3, -, -, -, hb⟩; have hA : Below w2.heap.size w2 (w2.alloc (.cells #[.bool jl, .slice a2 k2 d2, .slice a2' k2' d2', .slice a2'' k2'' d2''] 25)) := (Below.refl _ _).alloc (Nat.le_refl _) _; have K := nodeIn_new w2 w2.heap.size jl rfl e1 e2 e3 i1 i2 i3; clear MM; replace NN := (NN.below hb).below hA; replace J := (J.below hb).below hA; replace HB := Below.tr (Below.tr HB hb) hA; clear q0 q1 q2 q3 p0 p1 p2 p3; obtain ⟨⟨q0, q1, q2, q3⟩, -⟩ := NN.box; obtain ⟨⟨j0, j1, j2, j3⟩, -⟩ := J.box; obtain ⟨⟨r0, r1, r2, r3⟩, -⟩ := K.box; clear hb hA e1 e2 e3 i1 i2 i3)
          | (go_at_call 17; have _t := tl1; refine (like_in J K).mono ?_; rintro y w3 ⟨rfl, hb⟩; replace NN := NN.below hb; replace HB := Below.tr HB hb; clear q0 q1 q2 q3 j0 j1 j2 j3 r0 r1 r2 r3; clear J K; obtain ⟨⟨q0, q1, q2, q3⟩, -⟩ := NN.box; clear hb _t tl1)
          | (go_at_call 12; refine (alive07_any _).mono ?_; rintro y w4 ⟨rfl, hb⟩; replace NN := NN.below hb; replace HB := Below.tr HB hb; clear q0 q1 q2 q3; obtain ⟨⟨q0, q1, q2, q3⟩, -⟩ := NN.box; clear hb)
          | (go_at_call 24; refine (cC _ NN).mono ?_; rintro y w5 ⟨k3, a3, d3, k3', a3', d3', k3'', a3'', d3'', k4, a4, d4, k4', a4', d4', k4'', a4'', d4'', rfl, e1, e2, e3, e4, e5, e6, i1, i2, i3, i4, i5, i6, hb⟩; have hA : Below w5.heap.size w5 (w5.alloc (.cells #[.bool false, .slice a3 k3 d3, .slice a3' k3' d3', .slice a3'' k3'' d3''] 25)) := (Below.refl _ _).alloc (Nat.le_refl _) _; have hA2 : Below (w5.alloc (.cells #[.bool false, .slice a3 k3 d3, .slice a3' k3' d3', .slice a3'' k3'' d3''] 25)).heap.size (w5.alloc (.cells #[.bool false, .slice a3 k3 d3, .slice a3' k3' d3', .slice a3'' k3'' d3''] 25)) ((w5.alloc (.cells #[.bool false, .slice a3 k3 d3, .slice a3' k3' d3', .slice a3'' k3'' d3''] 25)).alloc (.cells #[.bool false, .slice a4 k4 d4, .slice a4' k4' d4', .slice a4'' k4'' d4''] 25)) := (Below.refl _ _).alloc (Nat.le_refl _) _; have X := (nodeIn_new w5 w5.heap.size false rfl e1 e2 e3 i1 i2 i3).below hA2; have Y := nodeIn_new (w5.alloc (.cells #[.bool false, .slice a3 k3 d3, .slice a3' k3' d3', .slice a3'' k3'' d3''] 25)) (w5.heap.size + 1) false (by simp) e4 e5 e6 (i4.below hA) (i5.below hA) (i6.below hA); replace NN := ((NN.below hb).below hA).below hA2; replace HB := Below.tr (Below.tr (Below.tr HB hb) hA) hA2; clear q0 q1 q2 q3; obtain ⟨⟨q0, q1, q2, q3⟩, -⟩ := NN.box; obtain ⟨⟨j0, j1, j2, j3⟩, -⟩ := X.box; obtain ⟨⟨r0, r1, r2, r3⟩, -⟩ := Y.box; clear hb hA hA2 e1 e2 e3 e4 e5 e6 i1 i2 i3 i4 i5 i6)
          | (go_at_call 25; refine (cS _ NN).mono ?_; rintro y w6 ⟨rfl, hb⟩; replace NN := NN.below hb; replace X := X.below hb; replace Y := Y.below hb; replace HB := Below.tr HB hb; clear q0 q1 q2 q3 j0 j1 j2 j3 r0 r1 r2 r3; obtain ⟨⟨q0, q1, q2, q3⟩, -⟩ := NN.box; obtain ⟨⟨j0, j1, j2, j3⟩, -⟩ := X.box; obtain ⟨⟨r0, r1, r2, r3⟩, -⟩ := Y.box; clear hb)
          | (go_at_call 17; have _t := tl2; refine (like_none X).mono ?_; rintro y w7 ⟨rfl, hb⟩; replace Y := Y.below hb; replace HB := Below.tr HB hb; clear q0 q1 q2 q3 j0 j1 j2 j3 r0 r1 r2 r3; clear X NN; obtain ⟨⟨r0, r1, r2, r3⟩, -⟩ := Y.box; clear hb _t tl2)
          | (go_at_call 17; have _t := tl3; refine (like_none Y).mono ?_; rintro y w8 ⟨rfl, hb⟩; replace HB := Below.tr HB hb; clear r0 r1 r2 r3; clear Y; clear hb _t tl3)
          )
        go_ret
        exact ⟨rfl, HB⟩

end Go.Proofs.Ytmhnnfmggdohkaa

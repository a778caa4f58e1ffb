/-
  The document's own Join, of any two nodes.
-/
import Derived.Test.YtmhnnfmggdohkaaNodeRefJoinI
import Derived.Test.YtmhnnfmggdohkaaNodePair
import Derived.Test.YtmhnnfmggdohkaaNodeJoinI
import Derived.Test.YtmhnnfmggdohkaaNodeRefB
namespace Go.Proofs.Ytmhnnfmggdohkaa
open Go.RowKit Plain
set_option linter.unusedVariables false

set_option maxRecDepth 20000 in
set_option maxHeartbeats 4000000 in
/-- JOIN, of nodes that are refused at once. -/
theorem refJoinBad_any (l l2 : Bool) (a a' a'' e e' e'' : Option Addr) (c c' c'' f f' f'' n n' n'' m m' m'' : Nat) (ks vs ks2 vs2 : List ByteArray) (cs cs2 : List Int) (key : ByteArray) (w : World)
    (hn : n = ks.length) (hn' : n' = vs.length) (hn'' : n'' = cs.length) (hK : IsS w a c ks) (hV : IsS w a' c' vs) (hC : IsI w a'' c'' cs)
    (hm : m = ks2.length) (hm' : m' = vs2.length) (hm'' : m'' = cs2.length) (hK2 : IsS w e f ks2) (hV2 : IsS w e' f' vs2) (hC2 : IsI w e'' f'' cs2)
    (hbad : ¬ (standsN l ks vs cs = true ∧ standsN l2 ks2 vs2 cs2 = true ∧ l = l2)) :
    Calls Try.prog 23 #[.agg #[.bool l, .slice a n c, .slice a' n' c', .slice a'' n'' c''], .string key, .agg #[.bool l2, .slice e m f, .slice e' m' f', .slice e'' m'' f'']] w fun x w' => Answers w x w' false [] [] [] 1 := by
  obtain ⟨W, hW⟩ : ∃ W, W = ((w.alloc (.cells #[.bool l, .slice a n c, .slice a' n' c', .slice a'' n'' c''] 25)).alloc (.cells #[.bool l2, .slice e m f, .slice e' m' f', .slice e'' m'' f''] 25)).alloc (.cells #[.bool false, .slice none 0 0, .slice none 0 0, .slice none 0 0] 25) := ⟨_, rfl⟩
  have A3 : Box4 W w.heap.size (.bool l) (.slice a n c) (.slice a' n' c') (.slice a'' n'' c'') := by rw [hW]; exact ((box4_new _ _ _ _ _ _ rfl).alloc _).alloc _
  have A5 : Box4 W (w.heap.size + 1) (.bool l2) (.slice e m f) (.slice e' m' f') (.slice e'' m'' f'') := by rw [hW]; exact (box4_new _ _ _ _ _ _ (by simp)).alloc _
  have A6 : Box4 W (w.heap.size + 2) (.bool false) (.slice none 0 0) (.slice none 0 0) (.slice none 0 0) := by rw [hW]; exact box4_new _ _ _ _ _ _ (by simp)
  have HB : Below w.heap.size w W := by rw [hW]; exact (((Below.refl _ _).alloc (Nat.le_refl _) _).alloc (by simp) _).alloc (by simp; omega) _
  have c1 : ∀ V, Below w.heap.size w V → Calls Try.prog 25 #[.agg #[.bool l, .slice a n c, .slice a' n' c', .slice a'' n'' c'']] V fun e w' => e = .returned (.bool (standsN l ks vs cs)) ∧ Below V.heap.size V w' := fun V h => refStands_at (l := l) hn hn' hn'' (hK.below h) (hV.below h) (hC.below h)
  have c2 : ∀ V, Below w.heap.size w V → Calls Try.prog 25 #[.agg #[.bool l2, .slice e m f, .slice e' m' f', .slice e'' m'' f'']] V fun e w' => e = .returned (.bool (standsN l2 ks2 vs2 cs2)) ∧ Below V.heap.size V w' := fun V h => refStands_at (l := l2) hm hm' hm'' (hK2.below h) (hV2.below h) (hC2.below h)
  clear hn hn' hn'' hm hm' hm'' hK hV hC hK2 hV2 hC2
  have hle : w.heap.size ≤ w.heap.size + 2 := by omega
  have tok1 : True := trivial
  obtain ⟨⟨q0, q1, q2, q3⟩, -⟩ := id A3
  obtain ⟨⟨p0, p1, p2, p3⟩, -⟩ := id A5
  cases h1 : standsN l ks vs cs with
  | false =>
    rw [h1] at c1
    clear hbad h1 c2
    go_enter Try.func23, Try.ntmps23
    go_wp2_with (first
      | (go_at_call 25; rw [← hW]; refine (c1 _ HB).mono ?_; rintro y w1 ⟨rfl, hb⟩; replace HB := Below.tr HB hb; replace A6 := A6.below hb; obtain ⟨⟨r0, r1, r2, r3⟩, g0, g1, g2, g3⟩ := id A6; clear q0 q1 q2 q3 p0 p1 p2 p3; clear hb))
    exact bodyPost_ret (v := .tuple #[.agg #[.bool false, .slice none 0 0, .slice none 0 0, .slice none 0 0], .int .i64 1]) (by simp [results, Try.results23, go_sem, r0, r1, r2, r3]) rfl (answers_none (below_put4 HB hle _ _ _ _))
  | true =>
    rw [h1] at c1
    cases h2 : standsN l2 ks2 vs2 cs2 with
    | false =>
      rw [h2] at c2
      clear hbad h1 h2
      go_enter Try.func23, Try.ntmps23
      go_wp2_with (first
        | (go_at_call 25; have _t := tok1; rw [← hW]; refine (c1 _ HB).mono ?_; rintro y w1 ⟨rfl, hb⟩; replace HB := Below.tr HB hb; replace A3 := A3.below hb; replace A5 := A5.below hb; replace A6 := A6.below hb; clear q0 q1 q2 q3 p0 p1 p2 p3; obtain ⟨⟨q0, q1, q2, q3⟩, -⟩ := id A3; obtain ⟨⟨p0, p1, p2, p3⟩, -⟩ := id A5; clear hb tok1 _t)
        | (go_at_call 25; refine (c2 _ HB).mono ?_; rintro y w2 ⟨rfl, hb⟩; replace HB := Below.tr HB hb; replace A6 := A6.below hb; obtain ⟨⟨r0, r1, r2, r3⟩, g0, g1, g2, g3⟩ := id A6; clear q0 q1 q2 q3 p0 p1 p2 p3 hb))
      exact bodyPost_ret (v := .tuple #[.agg #[.bool false, .slice none 0 0, .slice none 0 0, .slice none 0 0], .int .i64 1]) (by simp [results, Try.results23, go_sem, r0, r1, r2, r3]) rfl (answers_none (below_put4 HB hle _ _ _ _))
    | true =>
      rw [h2] at c2
      have h3 : (l == l2) = false := by
        have : l ≠ l2 := fun h => hbad ⟨h1, h2, h⟩
        simpa using this
      have h4 : (!(l == l2)) = true := by rw [h3]; rfl
      clear hbad h1 h2
      go_enter Try.func23, Try.ntmps23
      go_wp2_with (first
        | (go_at_call 25; have _t := tok1; rw [← hW]; refine (c1 _ HB).mono ?_; rintro y w1 ⟨rfl, hb⟩; replace HB := Below.tr HB hb; replace A3 := A3.below hb; replace A5 := A5.below hb; replace A6 := A6.below hb; clear q0 q1 q2 q3 p0 p1 p2 p3; obtain ⟨⟨q0, q1, q2, q3⟩, -⟩ := id A3; obtain ⟨⟨p0, p1, p2, p3⟩, -⟩ := id A5; clear hb tok1 _t)
        | (go_at_call 25; refine (c2 _ HB).mono ?_; rintro y w2 ⟨rfl, hb⟩; replace HB := Below.tr HB hb; replace A3 := A3.below hb; replace A5 := A5.below hb; replace A6 := A6.below hb; obtain ⟨⟨r0, r1, r2, r3⟩, g0, g1, g2, g3⟩ := id A6; clear q0 q1 q2 q3 p0 p1 p2 p3; obtain ⟨⟨q0, q1, q2, q3⟩, -⟩ := id A3; obtain ⟨⟨p0, p1, p2, p3⟩, -⟩ := id A5; clear hb))
      exact bodyPost_ret (v := .tuple #[.agg #[.bool false, .slice none 0 0, .slice none 0 0, .slice none 0 0], .int .i64 1]) (by simp [results, Try.results23, go_sem, r0, r1, r2, r3]) rfl (answers_none (below_put4 HB hle _ _ _ _))

/-- JOIN, the document's own, of any two nodes. -/
theorem refJoin_any (l l2 : Bool) (a a' a'' e e' e'' : Option Addr) (c c' c'' f f' f'' n n' n'' m m' m'' : Nat) (ks vs ks2 vs2 : List ByteArray) (cs cs2 : List Int) (key : ByteArray) (w : World)
    (hn : n = ks.length) (hn' : n' = vs.length) (hn'' : n'' = cs.length) (hK : IsS w a c ks) (hV : IsS w a' c' vs) (hC : IsI w a'' c'' cs)
    (hm : m = ks2.length) (hm' : m' = vs2.length) (hm'' : m'' = cs2.length) (hK2 : IsS w e f ks2) (hV2 : IsS w e' f' vs2) (hC2 : IsI w e'' f'' cs2) (hkey : key.size ≤ maxLen) :
    Calls Try.prog 23 #[.agg #[.bool l, .slice a n c, .slice a' n' c', .slice a'' n'' c''], .string key, .agg #[.bool l2, .slice e m f, .slice e' m' f', .slice e'' m'' f'']] w fun x w' =>
      Answers w x w' (joinL l ks vs cs key l2 ks2 vs2 cs2) (joinKs l ks vs cs key l2 ks2 vs2 cs2) (joinVs l ks vs cs key l2 ks2 vs2 cs2) (joinCs l ks vs cs key l2 ks2 vs2 cs2) (joinE l ks vs cs key l2 ks2 vs2 cs2) := by
  by_cases hb : standsN l ks vs cs = true ∧ standsN l2 ks2 vs2 cs2 = true ∧ l = l2
  · obtain ⟨h1, h2, rfl⟩ := hb
    cases l with
    | true =>
      have hj : joinK true ks key ks2 = ks ++ ks2 := by unfold joinK; rw [if_pos rfl]
      by_cases h3 : standsN true (ks ++ ks2) (vs ++ vs2) (cs ++ cs2) = true
      · have hE : joinE true ks vs cs key true ks2 vs2 cs2 = 0 := by unfold joinE; rw [if_pos ⟨h1, h2, rfl, by rw [hj]; exact h3⟩]
        unfold joinL joinKs joinVs joinCs
        rw [hE, if_pos rfl, if_pos rfl, if_pos rfl, if_pos rfl, hj]
        exact refJoinLeaf_any a a' a'' e e' e'' c c' c'' f f' f'' n n' n'' m m' m'' ks vs ks2 vs2 cs cs2 key w hn hn' hn'' hK hV hC hm hm' hm'' hK2 hV2 hC2 hkey h1 h2 h3
      · have hE : joinE true ks vs cs key true ks2 vs2 cs2 = 1 := by unfold joinE; rw [if_neg (fun hh => h3 (by have := hh.2.2.2; rw [hj] at this; exact this))]
        unfold joinL joinKs joinVs joinCs
        rw [hE, if_neg (by decide), if_neg (by decide), if_neg (by decide), if_neg (by decide)]
        exact refJoinLeafNo_any a a' a'' e e' e'' c c' c'' f f' f'' n n' n'' m m' m'' ks vs ks2 vs2 cs cs2 key w hn hn' hn'' hK hV hC hm hm' hm'' hK2 hV2 hC2 hkey h1 h2 (Bool.eq_false_iff.2 h3)
    | false =>
      have hj : joinK false ks key ks2 = ks ++ key :: ks2 := by unfold joinK; rw [if_neg (by decide)]
      by_cases h3 : standsN false (ks ++ key :: ks2) (vs ++ vs2) (cs ++ cs2) = true
      · have hE : joinE false ks vs cs key false ks2 vs2 cs2 = 0 := by unfold joinE; rw [if_pos ⟨h1, h2, rfl, by rw [hj]; exact h3⟩]
        unfold joinL joinKs joinVs joinCs
        rw [hE, if_pos rfl, if_pos rfl, if_pos rfl, if_pos rfl, hj]
        exact refJoinInner_any a a' a'' e e' e'' c c' c'' f f' f'' n n' n'' m m' m'' ks vs ks2 vs2 cs cs2 key w hn hn' hn'' hK hV hC hm hm' hm'' hK2 hV2 hC2 hkey h1 h2 h3
      · have hE : joinE false ks vs cs key false ks2 vs2 cs2 = 1 := by unfold joinE; rw [if_neg (fun hh => h3 (by have := hh.2.2.2; rw [hj] at this; exact this))]
        unfold joinL joinKs joinVs joinCs
        rw [hE, if_neg (by decide), if_neg (by decide), if_neg (by decide), if_neg (by decide)]
        exact refJoinInnerNo_any a a' a'' e e' e'' c c' c'' f f' f'' n n' n'' m m' m'' ks vs ks2 vs2 cs cs2 key w hn hn' hn'' hK hV hC hm hm' hm'' hK2 hV2 hC2 hkey h1 h2 (Bool.eq_false_iff.2 h3)
  · have hE : joinE l ks vs cs key l2 ks2 vs2 cs2 = 1 := by unfold joinE; rw [if_neg (fun hh => hb ⟨hh.1, hh.2.1, hh.2.2.1⟩)]
    unfold joinL joinKs joinVs joinCs
    rw [hE, if_neg (by decide), if_neg (by decide), if_neg (by decide), if_neg (by decide)]
    exact refJoinBad_any l l2 a a' a'' e e' e'' c c' c'' f f' f'' n n' n'' m m' m'' ks vs ks2 vs2 cs cs2 key w hn hn' hn'' hK hV hC hm hm' hm'' hK2 hV2 hC2 hb

end Go.Proofs.Ytmhnnfmggdohkaa

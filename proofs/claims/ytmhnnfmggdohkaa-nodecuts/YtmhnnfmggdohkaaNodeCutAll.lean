/-
  The program's own Cut, of any node.
-/
import Derived.Test.YtmhnnfmggdohkaaNodeCuttingI
namespace Go.Proofs.Ytmhnnfmggdohkaa
open Go.RowKit Plain
set_option linter.unusedVariables false

/-- What Cut answers. -/
def cutOk (l : Bool) (ks vs : List ByteArray) (cs : List Int) : Bool := standsN l ks vs cs && decide (ks.length = 9)
def cutL (l : Bool) (ks vs : List ByteArray) (cs : List Int) : Bool := cutOk l ks vs cs && l
def cutAK (l : Bool) (ks vs : List ByteArray) (cs : List Int) : List ByteArray := if cutOk l ks vs cs = true then ks.take 4 else []
def cutAV (l : Bool) (ks vs : List ByteArray) (cs : List Int) : List ByteArray := if cutOk l ks vs cs = true then vs.take 4 else []
def cutAC (l : Bool) (ks vs : List ByteArray) (cs : List Int) : List Int := if cutOk l ks vs cs = true then cs.take 5 else []
def cutBK (l : Bool) (ks vs : List ByteArray) (cs : List Int) : List ByteArray := if cutOk l ks vs cs = true then ks.drop (cutFrom l) else []
def cutBV (l : Bool) (ks vs : List ByteArray) (cs : List Int) : List ByteArray := if cutOk l ks vs cs = true then vs.drop 4 else []
def cutBC (l : Bool) (ks vs : List ByteArray) (cs : List Int) : List Int := if cutOk l ks vs cs = true then cs.drop 5 else []
def cutM (l : Bool) (ks vs : List ByteArray) (cs : List Int) : ByteArray := if cutOk l ks vs cs = true then ks.getD 4 ⟨#[]⟩ else ⟨#[]⟩
def cutEr (l : Bool) (ks vs : List ByteArray) (cs : List Int) : Int := if cutOk l ks vs cs = true then 0 else 1

/-- Two nodes that are answered, with a key between them and an error. -/
def Answers2 (w : World) (x : Ending) (w' : World) (l : Bool) (ks vs : List ByteArray) (cs : List Int) (mid : ByteArray) (ks2 vs2 : List ByteArray) (cs2 : List Int) (E : Int) : Prop :=
  ∃ n a d n' a' d' n'' a'' d'' m e f m' e' f' m'' e'' f'', x = .returned (.tuple #[.agg #[.bool l, .slice a n d, .slice a' n' d', .slice a'' n'' d''], .string mid, .agg #[.bool l, .slice e m f, .slice e' m' f', .slice e'' m'' f''], .int .i64 E]) ∧
    n = ks.length ∧ n' = vs.length ∧ n'' = cs.length ∧ m = ks2.length ∧ m' = vs2.length ∧ m'' = cs2.length ∧
    IsS w' a d ks ∧ IsS w' a' d' vs ∧ IsI w' a'' d'' cs ∧ IsS w' e f ks2 ∧ IsS w' e' f' vs2 ∧ IsI w' e'' f'' cs2 ∧ Below w.heap.size w w'

set_option maxRecDepth 20000 in
set_option maxHeartbeats 1000000 in
theorem cutBad_any (l : Bool) (a a' a'' : Option Addr) (c c' c'' n n' n'' : Nat) (ks vs : List ByteArray) (cs : List Int) (w : World)
    (hn : n = ks.length) (hn' : n' = vs.length) (hn'' : n'' = cs.length) (hK : IsS w a c ks) (hV : IsS w a' c' vs) (hC : IsI w a'' c'' cs) (hbad : ¬ (standsN l ks vs cs = true ∧ ks.length = 9)) :
    Calls Try.prog 24 #[.agg #[.bool l, .slice a n c, .slice a' n' c', .slice a'' n'' c'']] w fun x w' => Answers2 w x w' false [] [] [] ⟨#[]⟩ [] [] [] 1 := by
  obtain ⟨W, hW⟩ : ∃ W, W = ((w.alloc (.cells #[.bool l, .slice a n c, .slice a' n' c', .slice a'' n'' c''] 25)).alloc (.cells #[.bool false, .slice none 0 0, .slice none 0 0, .slice none 0 0] 25)).alloc (.cells #[.bool false, .slice none 0 0, .slice none 0 0, .slice none 0 0] 25) := ⟨_, rfl⟩
  have A1 : Box4 W w.heap.size (.bool l) (.slice a n c) (.slice a' n' c') (.slice a'' n'' c'') := by rw [hW]; exact ((box4_new _ _ _ _ _ _ rfl).alloc _).alloc _
  have A2 : Box4 W (w.heap.size + 1) (.bool false) (.slice none 0 0) (.slice none 0 0) (.slice none 0 0) := by rw [hW]; exact (box4_new _ _ _ _ _ _ (by simp)).alloc _
  have A4 : Box4 W (w.heap.size + 2) (.bool false) (.slice none 0 0) (.slice none 0 0) (.slice none 0 0) := by rw [hW]; exact box4_new _ _ _ _ _ _ (by simp)
  have HB : Below w.heap.size w W := by rw [hW]; exact (((Below.refl _ _).alloc (Nat.le_refl _) _).alloc (by simp) _).alloc (by simp; omega) _
  have c1 : ∀ V, Below w.heap.size w V → Calls Try.prog 31 #[.agg #[.bool l, .slice a n c, .slice a' n' c', .slice a'' n'' c'']] V fun e w' => e = .returned (.bool (standsN l ks vs cs)) ∧ Below V.heap.size V w' := fun V h => mayStand_any l a a' a'' c c' c'' n n' n'' ks vs cs V hn hn' hn'' (hK.below h) (hV.below h) (hC.below h)
  have hn9 : standsN l ks vs cs = true → ¬ n = 9 := fun h hh => hbad ⟨h, by omega⟩
  clear hbad hn hn' hn'' hK hV hC
  have hle : w.heap.size ≤ w.heap.size + 1 := by omega
  have hle2 : w.heap.size ≤ w.heap.size + 1 + 1 := by omega
  obtain ⟨⟨q0, q1, q2, q3⟩, -⟩ := id A1
  cases h1 : standsN l ks vs cs with
  | false =>
    rw [h1] at c1
    clear h1 hn9
    go_enter Try.func24, Try.ntmps24
    go_wp2_with (go_at_call 31; rw [← hW]; refine (c1 _ HB).mono ?_; rintro y w1 ⟨rfl, hb⟩; replace HB := Below.tr HB hb; replace A2 := A2.below hb; replace A4 := A4.below hb; obtain ⟨⟨r0, r1, r2, r3⟩, g0, g1, g2, g3⟩ := id A2; obtain ⟨⟨s0, s1, s2, s3⟩, t0, t1, t2, t3⟩ := id A4; clear q0 q1 q2 q3 hb)
    exact bodyPost_ret (v := .tuple #[.agg #[.bool false, .slice none 0 0, .slice none 0 0, .slice none 0 0], .string ⟨#[]⟩, .agg #[.bool false, .slice none 0 0, .slice none 0 0, .slice none 0 0], .int .i64 1]) (by simp [results, Try.results24, go_sem, r0, r1, r2, r3, s0, s1, s2, s3]) rfl ⟨0, none, 0, 0, none, 0, 0, none, 0, 0, none, 0, 0, none, 0, 0, none, 0, rfl, rfl, rfl, rfl, rfl, rfl, rfl, isS_nil _, isS_nil _, isI_nil _, isS_nil _, isS_nil _, isI_nil _, below_put4 (below_put4 HB hle _ _ _ _) hle2 _ _ _ _⟩
  | true =>
    replace hn9 := hn9 h1
    rw [h1] at c1
    clear h1
    go_enter Try.func24, Try.ntmps24
    go_wp2_with (go_at_call 31; rw [← hW]; refine (c1 _ HB).mono ?_; rintro y w1 ⟨rfl, hb⟩; replace HB := Below.tr HB hb; replace A1 := A1.below hb; replace A2 := A2.below hb; replace A4 := A4.below hb; obtain ⟨⟨r0, r1, r2, r3⟩, g0, g1, g2, g3⟩ := id A2; obtain ⟨⟨s0, s1, s2, s3⟩, t0, t1, t2, t3⟩ := id A4; clear q0 q1 q2 q3; obtain ⟨⟨q0, q1, q2, q3⟩, -⟩ := id A1; clear hb)
    exact bodyPost_ret (v := .tuple #[.agg #[.bool false, .slice none 0 0, .slice none 0 0, .slice none 0 0], .string ⟨#[]⟩, .agg #[.bool false, .slice none 0 0, .slice none 0 0, .slice none 0 0], .int .i64 1]) (by simp [results, Try.results24, go_sem, r0, r1, r2, r3, s0, s1, s2, s3]) rfl ⟨0, none, 0, 0, none, 0, 0, none, 0, 0, none, 0, 0, none, 0, 0, none, 0, rfl, rfl, rfl, rfl, rfl, rfl, rfl, isS_nil _, isS_nil _, isI_nil _, isS_nil _, isS_nil _, isI_nil _, below_put4 (below_put4 HB hle _ _ _ _) hle2 _ _ _ _⟩

/-- CUT, of any node. -/
theorem nodeCut_any (l : Bool) (a a' a'' : Option Addr) (c c' c'' n n' n'' : Nat) (ks vs : List ByteArray) (cs : List Int) (w : World)
    (hn : n = ks.length) (hn' : n' = vs.length) (hn'' : n'' = cs.length) (hK : IsS w a c ks) (hV : IsS w a' c' vs) (hC : IsI w a'' c'' cs) :
    Calls Try.prog 24 #[.agg #[.bool l, .slice a n c, .slice a' n' c', .slice a'' n'' c'']] w fun x w' => Answers2 w x w' (cutL l ks vs cs) (cutAK l ks vs cs) (cutAV l ks vs cs) (cutAC l ks vs cs) (cutM l ks vs cs) (cutBK l ks vs cs) (cutBV l ks vs cs) (cutBC l ks vs cs) (cutEr l ks vs cs) := by
  by_cases h : standsN l ks vs cs = true ∧ ks.length = 9
  · have hok : cutOk l ks vs cs = true := by unfold cutOk; rw [h.1, decide_eq_true h.2]; rfl
    unfold cutL cutAK cutAV cutAC cutM cutBK cutBV cutBC cutEr
    rw [hok]
    simp only [if_true, Bool.true_and]
    obtain ⟨h1, h9⟩ := h
    have hl4 : 4 < ks.length := by omega
    have hm : ks[4]? = some (ks.getD 4 ⟨#[]⟩) := by rw [List.getD_eq_getElem?_getD, List.getElem?_eq_getElem hl4]; rfl
    obtain rfl : n = 9 := by omega
    cases l with
    | true =>
      obtain ⟨rfl, hv⟩ := leaf_one_eq h1
      obtain rfl : n' = 9 := by omega
      obtain ⟨b, o, rfl⟩ : ∃ b o, a = some ⟨b, o, none⟩ := by
        obtain ⟨b, o, e, _⟩ := hK.2.2 4 _ hm
        exact ⟨b, o, e⟩
      obtain ⟨b', o', rfl⟩ : ∃ b o, a' = some ⟨b, o, none⟩ := by
        obtain ⟨b, o, e, _⟩ := hV.2.2 4 _ (List.getElem?_eq_getElem (by omega))
        exact ⟨b, o, e⟩
      refine (cutLeaf_any b o c b' o' c' a'' c'' n'' ks vs w hn hn' hn'' hK hV hC h1 hm).mono fun x w' hx => ?_
      obtain ⟨p, q, p', q', r, s, r', s', rfl, k1, k2, k3, k4, hb⟩ := hx
      refine ⟨4, p, q, 4, p', q', 0, none, 0, 5, r, s, 5, r', s', 0, none, 0, rfl, ?_, ?_, by simp, ?_, ?_, by simp, k1, k2, ?_, ?_, k4, ?_, hb⟩
      · rw [List.length_take]; omega
      · rw [List.length_take]; omega
      · rw [List.length_drop]; unfold cutFrom; simp; omega
      · rw [List.length_drop]; omega
      · simpa using isI_nil _
      · exact k3
      · simpa using isI_nil _
    | false =>
      obtain ⟨rfl, hv, _⟩ := inner_one_eq h1
      obtain rfl : n'' = 10 := by omega
      obtain ⟨b, o, rfl⟩ : ∃ b o, a = some ⟨b, o, none⟩ := by
        obtain ⟨b, o, e, _⟩ := hK.2.2 4 _ hm
        exact ⟨b, o, e⟩
      obtain ⟨b', o', rfl⟩ : ∃ b o, a'' = some ⟨b, o, none⟩ := by
        obtain ⟨b, o, e, _⟩ := hC.2.2 4 _ (List.getElem?_eq_getElem (by omega))
        exact ⟨b, o, e⟩
      refine (cutInner_any b o c b' o' c'' a' c' n' ks cs w hn hn' hn'' hK hV hC h1 hm).mono fun x w' hx => ?_
      obtain ⟨p, q, p', q', r, s, r', s', rfl, k1, k2, k3, k4, hb⟩ := hx
      refine ⟨4, p, q, 0, none, 0, 5, p', q', 4, r, s, 0, none, 0, 5, r', s', rfl, ?_, by simp, ?_, ?_, by simp, ?_, k1, ?_, k2, ?_, ?_, k4, hb⟩
      · rw [List.length_take]; omega
      · rw [List.length_take]; omega
      · rw [List.length_drop]; unfold cutFrom; simp; omega
      · rw [List.length_drop]; omega
      · simpa using isS_nil _
      · exact k3
      · simpa using isS_nil _
  · have hok : cutOk l ks vs cs = false := by
      unfold cutOk
      cases hh : standsN l ks vs cs with
      | false => rfl
      | true => simp only [Bool.true_and, decide_eq_false_iff_not]; exact fun h9 => h ⟨hh, h9⟩
    unfold cutL cutAK cutAV cutAC cutM cutBK cutBV cutBC cutEr
    rw [hok]
    simp only [Bool.false_eq_true, if_false, Bool.false_and]
    exact cutBad_any l a a' a'' c c' c'' n n' n'' ks vs cs w hn hn' hn'' hK hV hC h

end Go.Proofs.Ytmhnnfmggdohkaa

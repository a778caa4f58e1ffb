/-
  The document's own Like of nodes; the statements' own few.
-/
import Derived.Test.YtmhnnfmggdohkaaNodeRef
namespace Go.Proofs.Ytmhnnfmggdohkaa
open Go.RowKit Plain
set_option linter.unusedVariables false

theorem sameS_at {a a' : Option Addr} {c c' n n' : Nat} {l m : List ByteArray} {w : World} (hn : n = l.length) (hn' : n' = m.length) (hB : IsS w a c l) (hB' : IsS w a' c' m) :
    Calls Try.prog 37 #[.slice a n c, .slice a' n' c'] w fun e w' => e = .returned (.bool (decide (l = m))) ∧ Below w.heap.size w w' := by
  subst hn hn'; exact sameS_any a a' c c' l m w hB hB'

def likeN (l : Bool) (ks vs : List ByteArray) (cs : List Int) (l' : Bool) (ks' vs' : List ByteArray) (cs' : List Int) : Bool :=
  decide (l = l') && decide (ks = ks') && decide (vs = vs') && decide (cs = cs')

theorem likeN_iff {l : Bool} {ks vs : List ByteArray} {cs : List Int} {l' : Bool} {ks' vs' : List ByteArray} {cs' : List Int} : likeN l ks vs cs l' ks' vs' cs' = true ↔ l = l' ∧ ks = ks' ∧ vs = vs' ∧ cs = cs' := by
  unfold likeN
  simp only [Bool.and_eq_true, decide_eq_true_eq, and_assoc]

theorem likeN_not {l : Bool} {ks vs : List ByteArray} {cs : List Int} {l' : Bool} {ks' vs' : List ByteArray} {cs' : List Int} (h : ¬ (l = l' ∧ ks = ks' ∧ vs = vs' ∧ cs = cs')) : likeN l ks vs cs l' ks' vs' cs' = false := by
  rw [Bool.eq_false_iff]; exact fun hh => h (likeN_iff.1 hh)

set_option maxHeartbeats 2000000 in
/-- LIKE, of any two nodes. -/
theorem refLike_any (l : Bool) (a a' a'' : Option Addr) (c c' c'' n n' n'' : Nat) (ks vs : List ByteArray) (cs : List Int)
    (l2 : Bool) (d d' d'' : Option Addr) (f f' f'' m m' m'' : Nat) (ks2 vs2 : List ByteArray) (cs2 : List Int) (w : World)
    (hn : n = ks.length) (hn' : n' = vs.length) (hn'' : n'' = cs.length) (hK : IsS w a c ks) (hV : IsS w a' c' vs) (hC : IsI w a'' c'' cs)
    (hm : m = ks2.length) (hm' : m' = vs2.length) (hm'' : m'' = cs2.length) (hK2 : IsS w d f ks2) (hV2 : IsS w d' f' vs2) (hC2 : IsI w d'' f'' cs2) :
    Calls Try.prog 17 #[.agg #[.bool l, .slice a n c, .slice a' n' c', .slice a'' n'' c''], .agg #[.bool l2, .slice d m f, .slice d' m' f', .slice d'' m'' f'']] w fun e w' => e = .returned (.bool (likeN l ks vs cs l2 ks2 vs2 cs2)) ∧ Below w.heap.size w w' := by
  obtain ⟨W, hW⟩ : ∃ W, W = (w.alloc (.cells #[.bool l, .slice a n c, .slice a' n' c', .slice a'' n'' c''] 25)).alloc (.cells #[.bool l2, .slice d m f, .slice d' m' f', .slice d'' m'' f''] 25) := ⟨_, rfl⟩
  have hB0 : Below w.heap.size w W := by rw [hW]; exact ((Below.refl _ _).alloc (Nat.le_refl _) _).alloc (by simp) _
  have hX : Box4 W w.heap.size (.bool l) (.slice a n c) (.slice a' n' c') (.slice a'' n'' c'') := by rw [hW]; exact (box4_new w _ _ _ _ _ rfl).alloc _
  have hY : Box4 W (w.heap.size + 1) (.bool l2) (.slice d m f) (.slice d' m' f') (.slice d'' m'' f'') := by rw [hW]; exact box4_new _ _ _ _ _ _ (by simp)
  have cK : ∀ W', Below w.heap.size w W' → Calls Try.prog 37 #[.slice a n c, .slice d m f] W' fun e w' => e = .returned (.bool (decide (ks = ks2))) ∧ Below W'.heap.size W' w' := fun W' h => sameS_at hn hm (hK.below h) (hK2.below h)
  have cV : ∀ W', Below w.heap.size w W' → Calls Try.prog 37 #[.slice a' n' c', .slice d' m' f'] W' fun e w' => e = .returned (.bool (decide (vs = vs2))) ∧ Below W'.heap.size W' w' := fun W' h => sameS_at hn' hm' (hV.below h) (hV2.below h)
  have HC : Hid (IsI w a'' c'' cs) := hC
  have HC2 : Hid (IsI w d'' f'' cs2) := hC2
  have EC : Hid (n'' = cs.length) := hn''
  have EC2 : Hid (m'' = cs2.length) := hm''
  have hz : n'' ≤ 9223372036854775807 := by rw [hn'']; exact hC.size
  obtain ⟨r, hr⟩ : ∃ r, r = likeN l ks vs cs l2 ks2 vs2 cs2 := ⟨_, rfl⟩
  have HF : Hid (¬ (l = l2 ∧ ks = ks2 ∧ vs = vs2 ∧ cs = cs2) → r = false) := fun h => by rw [hr]; exact likeN_not h
  have HT : Hid ((l = l2 ∧ ks = ks2 ∧ vs = vs2 ∧ cs = cs2) → r = true) := fun h => by rw [hr]; exact likeN_iff.2 h
  rw [← hr]
  clear hn hn' hn'' hm hm' hm'' hK hV hC hK2 hV2 hC2 hr
  obtain ⟨⟨q0, q1, q2, q3⟩, -⟩ := hX
  obtain ⟨⟨s0, s1, s2, s3⟩, -⟩ := hY
  subst hW
  by_cases e0 : l = l2
  · subst e0
    by_cases e1 : ks = ks2
    · rw [decide_eq_true e1] at cK
      by_cases e2 : vs = vs2
      · rw [decide_eq_true e2] at cV
        by_cases e3 : n'' = m''
        · subst e3
          have HT' : Hid (cs = cs2 → r = true) := fun h => HT.out ⟨rfl, e1, e2, h⟩
          clear HT e1 e2
          have tok1 : True := trivial
          go_enter Try.func17, Try.ntmps17
          go_wp2_with (first
            | (go_at_call 37; have _t := tok1; refine (cK _ hB0).mono ?_; rintro e w1 ⟨rfl, hb⟩; replace q0 := cell_below hb q0; replace q1 := cell_below hb q1; replace q2 := cell_below hb q2; replace q3 := cell_below hb q3; replace s0 := cell_below hb s0; replace s1 := cell_below hb s1; replace s2 := cell_below hb s2; replace s3 := cell_below hb s3; replace hB0 := Below.tr hB0 hb; clear hb tok1)
            | (go_at_call 37; refine (cV _ hB0).mono ?_; rintro e w2 ⟨rfl, hb⟩; replace q0 := cell_below hb q0; replace q1 := cell_below hb q1; replace q2 := cell_below hb q2; replace q3 := cell_below hb q3; replace s0 := cell_below hb s0; replace s1 := cell_below hb s1; replace s2 := cell_below hb s2; replace s3 := cell_below hb s3; replace hB0 := Below.tr hB0 hb; clear hb))
          go_loopw [39] (fun v wr => ∃ j : Nat, j ≤ n'' ∧ v = .int .i64 j ∧ (∀ i, i < j → cs[i]? = cs2[i]?) ∧ Below w2.heap.size w2 wr) (fun v _ => n'' - (intOf v).toNat)
          case atStart => exact ⟨0, by omega, rfl, fun i hi => by omega, Below.refl _ _⟩
          case round =>
            obtain ⟨j, hj, rfl, hs, hbel⟩ := hrel
            have HS : Hid (∀ i, i < j → cs[i]? = cs2[i]?) := hs
            clear hs
            replace q3 := cell_below hbel q3
            replace s3 := cell_below hbel s3
            replace hB0 := Below.tr hB0 hbel
            by_cases hlt : j < n''
            · have hlt' : (j : Int) < n'' := by omega
              obtain ⟨x, hx⟩ : ∃ q, Hid (cs[j]? = some q) := ⟨_, List.getElem?_eq_getElem (by rw [← EC.out]; exact hlt)⟩
              obtain ⟨y, hy⟩ : ∃ q, Hid (cs2[j]? = some q) := ⟨_, List.getElem?_eq_getElem (by rw [← EC2.out]; exact hlt)⟩
              obtain ⟨b, o, rfl, hbl, hc0⟩ := HC.out.2.2 j x hx.out
              obtain ⟨b', o', rfl, hbl', hc0'⟩ := HC2.out.2.2 j y hy.out
              have hc := cell_below hB0 hc0
              have hc' := cell_below hB0 hc0'
              clear q0 q1 q2 s0 s1 s2
              by_cases e : x = y
              · have e1 : (x != y) = false := by rw [e]; simp
                go_wp2
                go_region
                go_wp2
                go_roundw
                case rel =>
                  refine ⟨j + 1, by omega, by go_num, fun i hi => ?_, hbel.drew⟩
                  by_cases ei : i = j
                  · rw [ei, hx.out, hy.out, e]
                  · exact HS.out i (by omega)
                case measure => simp [intOf]; omega
              · have e1 : (x != y) = true := by simp [e]
                have hne : Hid (r = false) := HF.out fun h => by
                  have := hx.out
                  rw [h.2.2.2, hy.out] at this
                  exact e (Option.some.inj this).symm
                go_wp2
                go_region
                go_wp2
                go_ret
                exact ⟨ret_bool hne.out.symm, hB0.drew⟩
            · obtain rfl : j = n'' := by omega
              have heq : Hid (r = true) := HT'.out (by
                apply List.ext_getElem?
                intro i
                by_cases hi : i < j
                · exact HS.out i hi
                · rw [List.getElem?_eq_none (by rw [← EC.out]; omega), List.getElem?_eq_none (by rw [← EC2.out]; omega)])
              go_wp2
              go_ret
              exact ⟨ret_bool heq.out.symm, hB0⟩
        · have e3' : ((n'' : Int) != m'') = true := by simp; omega
          have hne : Hid (r = false) := HF.out fun h => e3 (by rw [EC.out, EC2.out, h.2.2.2])
          clear HF HT e1 e2 e3
          have tok1 : True := trivial
          go_enter Try.func17, Try.ntmps17
          go_wp2_with (first
            | (go_at_call 37; have _t := tok1; refine (cK _ hB0).mono ?_; rintro e w1 ⟨rfl, hb⟩; replace q0 := cell_below hb q0; replace q1 := cell_below hb q1; replace q2 := cell_below hb q2; replace q3 := cell_below hb q3; replace s0 := cell_below hb s0; replace s1 := cell_below hb s1; replace s2 := cell_below hb s2; replace s3 := cell_below hb s3; replace hB0 := Below.tr hB0 hb; clear hb tok1)
            | (go_at_call 37; refine (cV _ hB0).mono ?_; rintro e w2 ⟨rfl, hb⟩; replace q0 := cell_below hb q0; replace q1 := cell_below hb q1; replace q2 := cell_below hb q2; replace q3 := cell_below hb q3; replace s0 := cell_below hb s0; replace s1 := cell_below hb s1; replace s2 := cell_below hb s2; replace s3 := cell_below hb s3; replace hB0 := Below.tr hB0 hb; clear hb))
          go_ret
          exact ⟨ret_bool hne.out.symm, hB0⟩
      · rw [decide_eq_false e2] at cV
        have hne : Hid (r = false) := HF.out fun h => e2 h.2.2.1
        clear HF HT e1 e2
        have tok1 : True := trivial
        go_enter Try.func17, Try.ntmps17
        go_wp2_with (first
          | (go_at_call 37; have _t := tok1; refine (cK _ hB0).mono ?_; rintro e w1 ⟨rfl, hb⟩; replace q0 := cell_below hb q0; replace q1 := cell_below hb q1; replace q2 := cell_below hb q2; replace q3 := cell_below hb q3; replace s0 := cell_below hb s0; replace s1 := cell_below hb s1; replace s2 := cell_below hb s2; replace s3 := cell_below hb s3; replace hB0 := Below.tr hB0 hb; clear hb tok1)
          | (go_at_call 37; refine (cV _ hB0).mono ?_; rintro e w2 ⟨rfl, hb⟩; replace q0 := cell_below hb q0; replace q1 := cell_below hb q1; replace q2 := cell_below hb q2; replace q3 := cell_below hb q3; replace s0 := cell_below hb s0; replace s1 := cell_below hb s1; replace s2 := cell_below hb s2; replace s3 := cell_below hb s3; replace hB0 := Below.tr hB0 hb; clear hb))
        go_ret
        exact ⟨ret_bool hne.out.symm, hB0⟩
    · rw [decide_eq_false e1] at cK
      have hne : Hid (r = false) := HF.out fun h => e1 h.2.1
      clear HF HT e1
      have tok1 : True := trivial
      go_enter Try.func17, Try.ntmps17
      go_wp2_with (go_at_call 37; have _t := tok1; refine (cK _ hB0).mono ?_; rintro e w1 ⟨rfl, hb⟩; replace q0 := cell_below hb q0; replace q1 := cell_below hb q1; replace q2 := cell_below hb q2; replace q3 := cell_below hb q3; replace s0 := cell_below hb s0; replace s1 := cell_below hb s1; replace s2 := cell_below hb s2; replace s3 := cell_below hb s3; replace hB0 := Below.tr hB0 hb; clear hb tok1)
      go_ret
      exact ⟨ret_bool hne.out.symm, hB0⟩
  · have e0' : (l != l2) = true := by simp [e0]
    have hne : Hid (r = false) := HF.out fun h => e0 h.1
    clear HF HT
    go_enter Try.func17, Try.ntmps17
    go_wp2
    go_ret
    exact ⟨ret_bool hne.out.symm, hB0⟩

end Go.Proofs.Ytmhnnfmggdohkaa

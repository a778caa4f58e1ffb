/-
  The program's own number, text, pairs, children and Put of nodes; the statements' own alive.
-/
import Derived.Test.YtmhnnfmggdohkaaNodeStand
import Derived.Test.YtmhnnfmggdohkaaNodeOnce
import Derived.Test.YtmhnnfmggdohkaaText
import Derived.Deep.RegionHeld3
namespace Go.Proofs.Ytmhnnfmggdohkaa
open Go.RowKit Plain
set_option linter.unusedVariables false

set_option maxHeartbeats 400000 in
theorem number_any (n k : Int) (w : World) :
    Calls Try.prog 27 #[.int .i64 n, .int .i64 k] w fun e w' => e = .returned (.string (putS n k)) ∧ Below w.heap.size w w' := by
  go_enter Try.func27, Try.ntmps27
  go_wp2_with (go_at_call 43; refine (put_any n k _).mono ?_; rintro e w' ⟨rfl, hb⟩)
  go_ret
  exact ⟨rfl, hb⟩

set_option maxHeartbeats 400000 in
theorem nodeText_any (s : ByteArray) (w : World) (hs : s.size ≤ maxLen) :
    Calls Try.prog 45 #[.string s] w fun e w' => e = .returned (.string (textS s)) ∧ Below w.heap.size w w' := by
  go_enter Try.func45, Try.ntmps45
  go_wp2_with (go_at_call 60; refine (text_any s _ hs).mono ?_; rintro e w' ⟨rfl, hb⟩)
  go_ret
  exact ⟨rfl, hb⟩

theorem textS_le (s : ByteArray) : (textS s).size ≤ 65537 := by
  by_cases h : s.size ≤ 65535
  · rw [textS_size h]; omega
  · rw [textS, if_neg h]; simp [ByteArray.size]

theorem putS_le (n : Int) {k : Int} : (putS n k).size ≤ 65537 := by
  by_cases h : putOk n k = true
  · have := putS_size h
    have := ((putOk_iff n k).1 h).2.1
    omega
  · rw [putS_bad (by simpa using h)]; simp [ByteArray.size]

theorem cat_two_step (P : List ByteArray) (x y : ByteArray) : cat [cat P, x, y] = cat (P ++ [x, y]) := by
  rw [(cat_two_more P x y []).2.2]
  rw [show [cat P, x, y] = [cat P] ++ ([x] ++ [y]) by rfl, cat_append, cat_append, cat_one, cat_one, cat_one, ByteArray.append_assoc]

theorem leafP_next {ks vs : List ByteArray} {j : Nat} {k v : ByteArray} (hl : ks.length = vs.length) (hk : ks[j]? = some k) (hv : vs[j]? = some v) :
    cat [cat (leafP (ks.take j) (vs.take j)), textS k, textS v] = cat (leafP (ks.take (j + 1)) (vs.take (j + 1))) := by
  rw [take_at' hk, take_at' hv, leafP_snoc (by rw [List.length_take, List.length_take, hl])]
  exact cat_two_step _ _ _

theorem leafP_bound {ks vs : List ByteArray} (h : standsN true ks vs [] = true) (j : Nat) : (cat (leafP (ks.take j) (vs.take j))).size ≤ 2124 := by
  obtain ⟨h9, hk, _, hv, _, _⟩ := standsN_iff.1 h
  have := leafP_size (ks := ks.take j) (vs := vs.take j) (fun k hm => (hk k (List.mem_of_mem_take hm)).2) (fun v hm => hv v (List.mem_of_mem_take hm))
  have h2 : (ks.take j).length ≤ 9 := by rw [List.length_take]; omega
  omega

theorem leaf_one_eq {ks vs : List ByteArray} {cs : List Int} (h : standsN true ks vs cs = true) : cs = [] ∧ vs.length = ks.length := by
  obtain ⟨_, _, _, _, _, hs⟩ := standsN_iff.1 h
  obtain ⟨e1, e2⟩ := shape_leaf.1 hs
  exact ⟨List.length_eq_zero_iff.1 e2, e1⟩

theorem inner_one_eq {ks vs : List ByteArray} {cs : List Int} (h : standsN false ks vs cs = true) : vs = [] ∧ cs.length = ks.length + 1 ∧ 1 ≤ ks.length := by
  obtain ⟨_, _, _, _, _, hs⟩ := standsN_iff.1 h
  obtain ⟨e1, e2, e3⟩ := shape_inner.1 hs
  exact ⟨List.length_eq_zero_iff.1 e1, e3, e2⟩

set_option maxRecDepth 20000 in
set_option maxHeartbeats 2000000 in
/-- PAIRS, of a leaf that may stand. -/
theorem pairs_any (l : Bool) (a a' a'' : Option Addr) (c c' c'' n n' n'' : Nat) (ks vs : List ByteArray) (w : World) (hn : n = ks.length) (hn' : n' = vs.length) (hK : IsS w a c ks) (hV : IsS w a' c' vs) (hs : standsN true ks vs [] = true) :
    Calls Try.prog 29 #[.agg #[.bool l, .slice a n c, .slice a' n' c', .slice a'' n'' c'']] w fun e w' => e = .returned (.string (cat (leafP ks vs))) ∧ Below w.heap.size w w' := by
  obtain ⟨W, hW⟩ : ∃ W, W = w.alloc (.cells #[.bool l, .slice a n c, .slice a' n' c', .slice a'' n'' c''] 25) := ⟨_, rfl⟩
  have hB0 : Below w.heap.size w W := by rw [hW]; exact (Below.refl _ _).alloc (Nat.le_refl _) _
  have hX : Box4 W w.heap.size (.bool l) (.slice a n c) (.slice a' n' c') (.slice a'' n'' c'') := by rw [hW]; exact box4_new _ _ _ _ _ _ rfl
  have hm : n ≤ 9 := by rw [hn]; exact (standsN_iff.1 hs).1
  have HK : Hid (IsS w a c ks) := hK
  have HV : Hid (IsS w a' c' vs) := hV
  have EK : Hid (n = ks.length) := hn
  have hnn : n' = n := by rw [hn, hn']; exact (leaf_one_eq hs).2
  subst hnn
  have EV : Hid (n' = vs.length) := hn'
  have HB : Hid (∀ j, (cat (leafP (ks.take j) (vs.take j))).size ≤ 2124) := leafP_bound hs
  have HS : Hid (standsN true ks vs [] = true) := hs
  clear hn hn' hK hV hs
  obtain ⟨⟨q0, q1, q2, q3⟩, -⟩ := id hX
  go_enter Try.func29, Try.ntmps29
  go_wp2
  rw [← hW]
  clear hW
  go_loopw [3, 9] (fun s v wr => ∃ j : Nat, j ≤ n' ∧ v = .int .i64 j ∧ s = .string (cat (leafP (ks.take j) (vs.take j))) ∧ Below W.heap.size W wr) (fun _ v _ => n' - (intOf v).toNat)
  case atStart => exact ⟨0, by omega, rfl, by simp [leafP, cat], Below.refl _ _⟩
  case round =>
    obtain ⟨j, hj, rfl, rfl, hbel⟩ := hrel
    clear q0 q1 q2 q3
    replace hX := hX.below hbel
    replace hB0 := Below.tr hB0 hbel
    obtain ⟨⟨q0, q1, q2, q3⟩, -⟩ := id hX
    by_cases hlt : j < n'
    · have hlt' : (j : Int) < n' := by omega
      obtain ⟨k, hk⟩ : ∃ x, Hid (ks[j]? = some x) := ⟨_, List.getElem?_eq_getElem (by rw [← EK.out]; exact hlt)⟩
      obtain ⟨v, hv⟩ : ∃ x, Hid (vs[j]? = some x) := ⟨_, List.getElem?_eq_getElem (by rw [← EV.out]; exact hlt)⟩
      obtain ⟨b, o, rfl, hlb, hc0, hxs⟩ := HK.out.2.2 j k hk.out
      obtain ⟨b', o', rfl, hlb', hc0', hxs'⟩ := HV.out.2.2 j v hv.out
      have hck := cell_below hB0 hc0
      have hcv := cell_below hB0 hc0'
      have cT : ∀ V, Calls Try.prog 45 #[.string k] V fun e w' => e = .returned (.string (textS k)) ∧ Below V.heap.size V w' := fun V => nodeText_any k V hxs
      have cU : ∀ V, Calls Try.prog 45 #[.string v] V fun e w' => e = .returned (.string (textS v)) ∧ Below V.heap.size V w' := fun V => nodeText_any v V hxs'
      have b1 : (textS k).size ≤ 65537 := textS_le k
      have b2 : (textS v).size ≤ 65537 := textS_le v
      have b3 := HB.out j
      have hN : Hid (cat [cat (leafP (ks.take j) (vs.take j)), textS k, textS v] = cat (leafP (ks.take (j + 1)) (vs.take (j + 1)))) := leafP_next (by rw [← EK.out, ← EV.out]) hk.out hv.out
      generalize cat (leafP (ks.take j) (vs.take j)) = s at b3 hN
      generalize textS k = tk at cT b1 hN
      generalize textS v = tv at cU b2 hN
      have cA : ∀ V, Calls Try.prog 28 #[.slice (some ⟨V.heap.size, 0, none⟩) 3 3] (V.alloc (.cells #[.string s, .string tk, .string tv] 9)) fun e w' => e = .returned (.string (cat [s, tk, tv])) ∧ Below V.heap.size V w' := fun V => all_three s tk tv V (by omega)
      clear hc0 hc0' hlb hlb' HB
      have tok1 : True := trivial
      have HB := Below.refl wr.heap.size wr
      go_wp2
      replace HB := HB.drew
      go_region_held3 (fun V => V.cell? ⟨w.heap.size, 2, none⟩ = some (.slice (some ⟨b', o', none⟩) n' c') ∧ V.cell? ⟨b', o' + j, none⟩ = some (.string v)) (first | exact ⟨q2, hcv⟩ | exact ⟨cell_alloc q2 _, cell_alloc hcv _⟩) (first
        | (go_at_call 45; have _t := tok1; refine (cT _).mono ?_; rintro e w1 ⟨rfl, hb⟩; replace q2 := cell_below hb q2; replace hcv := cell_below hb hcv; replace HB := Below.tr HB hb; clear hb tok1 _t)
        | (go_at_call 45; refine (cU _).mono ?_; rintro e w2 ⟨rfl, hb⟩; replace q2 := cell_below hb q2; replace hcv := cell_below hb hcv; replace HB := Below.tr HB hb; clear hb)
        | (go_at_call 28; refine (cA _).mono ?_; rintro e w3 ⟨rfl, hb⟩; replace q2 := cell_below hb q2; replace hcv := cell_below hb hcv; replace HB := Below.tr HB hb; clear hb))
      go_wp2
      go_roundw
      case rel => exact ⟨j + 1, by omega, by go_num, by rw [hN.out], Below.tr hbel HB⟩
      case measure => simp [intOf]; omega
    · obtain rfl : j = n' := by omega
      have e1 : Hid (leafP (ks.take j) (vs.take j) = leafP ks vs) := by
        show _ = _
        rw [List.take_of_length_le (by rw [← EK.out]; exact Nat.le_refl _), List.take_of_length_le (by rw [← EV.out]; exact Nat.le_refl _)]
      go_wp2
      go_ret
      exact ⟨ret_str (by rw [e1.out]), hB0⟩

/-- What children has behind so many keys. -/
def kidS (ks : List ByteArray) (cs : List Int) (j : Nat) : ByteArray := cat (innP (ks.take j) (cs.take j) ++ [putS (cs.getD j 0) 2])

theorem kidS_next {ks : List ByteArray} {cs : List Int} {j : Nat} {k : ByteArray} {c d : Int} (hl : ks.length ≤ cs.length) (hk : ks[j]? = some k) (hc : cs[j]? = some c) (hd : cs[j + 1]? = some d) :
    cat [kidS ks cs j, textS k, putS d 2] = kidS ks cs (j + 1) := by
  unfold kidS
  rw [cat_two_step, take_at' hk, take_at' hc, innP_snoc (by rw [List.length_take, List.length_take]; have := (List.getElem?_eq_some_iff.1 hk).1; omega), List.getD_eq_getElem?_getD, hc, List.getD_eq_getElem?_getD, hd]
  simp

theorem kidS_bound {ks : List ByteArray} {cs : List Int} (h : standsN false ks [] cs = true) (j : Nat) (hj : j ≤ ks.length) : (kidS ks cs j).size ≤ 326 := by
  obtain ⟨h9, hk, _, _, hc, _⟩ := standsN_iff.1 h
  obtain ⟨_, hl, _⟩ := inner_one_eq h
  have bc : ∀ c ∈ cs, putOk c 2 = true := fun c hm => two_ok (by have := (hc c hm).1; omega) (by have := (hc c hm).2; omega)
  have h1 := innP_size (ks := ks.take j) (cs := cs.take j) (fun k hm => (hk k (List.mem_of_mem_take hm)).2) (fun v hm => bc v (List.mem_of_mem_take hm))
  have h2 : (ks.take j).length ≤ 9 := by rw [List.length_take]; omega
  obtain ⟨z, hz⟩ : ∃ z, cs[j]? = some z := ⟨_, List.getElem?_eq_getElem (by omega)⟩
  have h3 := putS_size (bc z (List.mem_of_getElem? hz))
  unfold kidS
  rw [cat_append, cat_one, ByteArray.size_append, List.getD_eq_getElem?_getD, hz]
  simp only [Option.getD_some]
  omega

set_option maxRecDepth 20000 in
set_option maxHeartbeats 2000000 in
/-- CHILDREN, of an inner node that may stand. -/
theorem children_any (l : Bool) (a a' a'' : Option Addr) (c c' c'' n n' n'' : Nat) (ks : List ByteArray) (cs : List Int) (w : World) (hn : n = ks.length) (hn'' : n'' = cs.length) (hK : IsS w a c ks) (hC : IsI w a'' c'' cs) (hs : standsN false ks [] cs = true) :
    Calls Try.prog 30 #[.agg #[.bool l, .slice a n c, .slice a' n' c', .slice a'' n'' c'']] w fun e w' => e = .returned (.string (cat (innP ks cs ++ [putS (cs.getD ks.length 0) 2]))) ∧ Below w.heap.size w w' := by
  obtain ⟨W, hW⟩ : ∃ W, W = w.alloc (.cells #[.bool l, .slice a n c, .slice a' n' c', .slice a'' n'' c''] 25) := ⟨_, rfl⟩
  have hB0 : Below w.heap.size w W := by rw [hW]; exact (Below.refl _ _).alloc (Nat.le_refl _) _
  have hX : Box4 W w.heap.size (.bool l) (.slice a n c) (.slice a' n' c') (.slice a'' n'' c'') := by rw [hW]; exact box4_new _ _ _ _ _ _ rfl
  have hm : n ≤ 9 := by rw [hn]; exact (standsN_iff.1 hs).1
  have HK : Hid (IsS w a c ks) := hK
  have HC : Hid (IsI w a'' c'' cs) := hC
  have EK : Hid (n = ks.length) := hn
  have hnn : n'' = n + 1 := by rw [hn, hn'']; exact (inner_one_eq hs).2.1
  have EC : Hid (n + 1 = cs.length) := by show _ = _; rw [← hn'', hnn]
  subst hnn
  have HB : Hid (∀ j, j ≤ ks.length → (kidS ks cs j).size ≤ 326) := kidS_bound hs
  clear hn hn'' hK hC hs
  have hz0 : 0 < cs.length := by rw [← EC.out]; omega
  obtain ⟨z, hz⟩ : ∃ x, Hid (cs[0]? = some x) := ⟨cs[0], List.getElem?_eq_getElem (i := 0) hz0⟩
  clear hz0
  obtain ⟨b', o', rfl, hlb', hc0'⟩ := HC.out.2.2 0 z hz.out
  have hcz := cell_below hB0 hc0'
  rw [Nat.add_zero] at hcz
  have H0 : Hid (putS z 2 = kidS ks cs 0) := by show _ = _; unfold kidS; rw [List.getD_eq_getElem?_getD, hz.out]; simp [innP, cat_one]
  clear hc0' hlb'
  have cN : ∀ V, Calls Try.prog 27 #[.int .i64 z, .int .i64 2] V fun e w' => e = .returned (.string (putS z 2)) ∧ Below V.heap.size V w' := fun V => number_any z 2 V
  generalize putS z 2 = pz at cN H0
  obtain ⟨⟨q0, q1, q2, q3⟩, -⟩ := id hX
  have e1 : ((n + 1 : Nat) : Int) = (n : Int) + 1 := by omega
  have hcr := hcz
  rw [hW] at hcr
  go_enter Try.func30, Try.ntmps30
  go_wp2_with (go_at_call 27; rw [← hW]; refine (cN _).mono ?_; rintro e w1 ⟨rfl, hb⟩; replace hX := hX.below hb; replace hB0 := Below.tr hB0 hb; clear q0 q1 q2 q3 hb hcz hcr cN; obtain ⟨⟨q0, q1, q2, q3⟩, -⟩ := id hX)
  clear hW
  go_loopw [3, 14] (fun s v wr => ∃ j : Nat, j ≤ n ∧ v = .int .i64 j ∧ s = .string (kidS ks cs j) ∧ Below w1.heap.size w1 wr) (fun _ v _ => n - (intOf v).toNat)
  case atStart => exact ⟨0, by omega, rfl, by rw [H0.out], Below.refl _ _⟩
  case round =>
    obtain ⟨j, hj, rfl, rfl, hbel⟩ := hrel
    clear q0 q1 q2 q3
    replace hX := hX.below hbel
    replace hB0 := Below.tr hB0 hbel
    obtain ⟨⟨q0, q1, q2, q3⟩, -⟩ := id hX
    by_cases hlt : j < n
    · have hlt' : (j : Int) < n := by omega
      obtain ⟨k, hk⟩ : ∃ x, Hid (ks[j]? = some x) := ⟨_, List.getElem?_eq_getElem (by rw [← EK.out]; exact hlt)⟩
      obtain ⟨y, hy⟩ : ∃ x, Hid (cs[j]? = some x) := ⟨_, List.getElem?_eq_getElem (by rw [← EC.out]; omega)⟩
      obtain ⟨d, hd⟩ : ∃ x, Hid (cs[j + 1]? = some x) := ⟨_, List.getElem?_eq_getElem (by rw [← EC.out]; omega)⟩
      obtain ⟨b, o, rfl, hlb, hc0, hxs⟩ := HK.out.2.2 j k hk.out
      obtain ⟨bb, oo, hbo, hlb2, hc2⟩ := HC.out.2.2 (j + 1) d hd.out
      obtain ⟨rfl, rfl⟩ : bb = b' ∧ oo = o' := by cases hbo; exact ⟨rfl, rfl⟩
      have hck := cell_below hB0 hc0
      have hcv := cell_below hB0 hc2
      have cT : ∀ V, Calls Try.prog 45 #[.string k] V fun e w' => e = .returned (.string (textS k)) ∧ Below V.heap.size V w' := fun V => nodeText_any k V hxs
      have cU : ∀ V, Calls Try.prog 27 #[.int .i64 d, .int .i64 2] V fun e w' => e = .returned (.string (putS d 2)) ∧ Below V.heap.size V w' := fun V => number_any d 2 V
      have b1 : (textS k).size ≤ 65537 := textS_le k
      have b2 : (putS d 2).size ≤ 65537 := putS_le d
      have b3 := HB.out j (by rw [← EK.out]; omega)
      have hN : Hid (cat [kidS ks cs j, textS k, putS d 2] = kidS ks cs (j + 1)) := kidS_next (by rw [← EK.out, ← EC.out]; omega) hk.out hy.out hd.out
      generalize kidS ks cs j = s at b3 hN
      generalize textS k = tk at cT b1 hN
      generalize putS d 2 = tv at cU b2 hN
      have cA : ∀ V, Calls Try.prog 28 #[.slice (some ⟨V.heap.size, 0, none⟩) 3 3] (V.alloc (.cells #[.string s, .string tk, .string tv] 9)) fun e w' => e = .returned (.string (cat [s, tk, tv])) ∧ Below V.heap.size V w' := fun V => all_three s tk tv V (by omega)
      clear hc0 hc2 hlb hlb2 HB hbo
      have HB := Below.refl wr.heap.size wr
      have w1 : IntKind.i64.wrap ((j : Int) + 1) = (j : Int) + 1 := i64_in _ (by omega) (by omega)
      have w2 : (0 : Int) ≤ (j : Int) + 1 := by omega
      have w3 : (j : Int) + 1 < (n : Int) + 1 := by omega
      have w4 : ((j : Int) + 1).toNat = j + 1 := by omega
      go_wp2
      replace HB := HB.drew
      go_region_held3 (fun V => V.cell? ⟨w.heap.size, 3, none⟩ = some (.slice (some ⟨bb, oo, none⟩) (n + 1) c'') ∧ V.cell? ⟨bb, oo + (j + 1), none⟩ = some (.int .i64 d)) (first | exact ⟨q3, hcv⟩ | exact ⟨cell_alloc q3 _, cell_alloc hcv _⟩) (first
        | (go_at_call 45; refine (cT _).mono ?_; rintro e w1 ⟨rfl, hb⟩; replace q3 := cell_below hb q3; replace hcv := cell_below hb hcv; replace HB := Below.tr HB hb; clear hb)
        | (go_at_call 27; refine (cU _).mono ?_; rintro e w2 ⟨rfl, hb⟩; replace q3 := cell_below hb q3; replace hcv := cell_below hb hcv; replace HB := Below.tr HB hb; clear hb)
        | (go_at_call 28; refine (cA _).mono ?_; rintro e w3 ⟨rfl, hb⟩; replace q3 := cell_below hb q3; replace hcv := cell_below hb hcv; replace HB := Below.tr HB hb; clear hb))
      go_wp2
      go_roundw
      case rel => exact ⟨j + 1, by omega, by go_num, by rw [hN.out], Below.tr hbel HB⟩
      case measure => simp [intOf]; omega
    · obtain rfl : j = n := by omega
      have e1 : Hid (kidS ks cs j = cat (innP ks cs ++ [putS (cs.getD ks.length 0) 2])) := by
        show _ = _
        unfold kidS
        have ec : cs = cs.take j ++ cs.drop j := (List.take_append_drop _ _).symm
        have e2 : innP ks (cs.take j) = innP ks cs := by
          conv => rhs; rw [ec]
          exact (innP_more ks _ _ (by rw [List.length_take, ← EC.out, ← EK.out]; omega)).symm
        rw [List.take_of_length_le (by rw [← EK.out]; exact Nat.le_refl _), e2, ← EK.out]
      go_wp2
      go_ret
      exact ⟨ret_str (by rw [e1.out]), hB0⟩

/-- What is put of a node, and the error. -/
def nPutS (l : Bool) (ks vs : List ByteArray) (cs : List Int) : ByteArray := if rightN l ks vs cs true = true then nodeS l ks vs cs else ⟨#[]⟩
def nPutE (l : Bool) (ks vs : List ByteArray) (cs : List Int) : Int := if rightN l ks vs cs true = true then 0 else 1

theorem nodeS_leaf (ks vs : List ByteArray) (cs : List Int) : nodeS true ks vs cs = cat [putS ks.length 1, cat (leafP ks vs)] := by
  unfold nodeS nodeP
  rw [if_pos rfl]
  rw [show putS (ks.length : Int) 1 :: leafP ks vs = [putS (ks.length : Int) 1] ++ leafP ks vs by rfl, cat_append]
  rw [show [putS (ks.length : Int) 1, cat (leafP ks vs)] = [putS (ks.length : Int) 1] ++ [cat (leafP ks vs)] by rfl, cat_append, cat_one (cat _)]

theorem nodeS_inner (ks vs : List ByteArray) (cs : List Int) : nodeS false ks vs cs = cat [putS ks.length 1, cat (innP ks cs ++ [putS (cs.getD ks.length 0) 2])] := by
  unfold nodeS nodeP
  rw [if_neg (by decide)]
  generalize innP ks cs ++ [putS (cs.getD ks.length 0) 2] = X
  rw [show putS (ks.length : Int) 1 :: X = [putS (ks.length : Int) 1] ++ X by rfl, cat_append]
  rw [show [putS (ks.length : Int) 1, cat X] = [putS (ks.length : Int) 1] ++ [cat X] by rfl, cat_append, cat_one (cat _)]

set_option maxRecDepth 20000 in
set_option maxHeartbeats 2000000 in
/-- PUT, at all nodes. -/
theorem nodePut_any (l : Bool) (a a' a'' : Option Addr) (c c' c'' n n' n'' : Nat) (ks vs : List ByteArray) (cs : List Int) (w : World) (hn : n = ks.length) (hn' : n' = vs.length) (hn'' : n'' = cs.length) (hK : IsS w a c ks) (hV : IsS w a' c' vs) (hC : IsI w a'' c'' cs) :
    Calls Try.prog 10 #[.agg #[.bool l, .slice a n c, .slice a' n' c', .slice a'' n'' c'']] w fun e w' => e = .returned (.tuple #[.string (nPutS l ks vs cs), .int .i64 (nPutE l ks vs cs)]) ∧ Below w.heap.size w w' := by
  obtain ⟨W, hW⟩ : ∃ W, W = w.alloc (.cells #[.bool l, .slice a n c, .slice a' n' c', .slice a'' n'' c''] 25) := ⟨_, rfl⟩
  have hB0 : Below w.heap.size w W := by rw [hW]; exact (Below.refl _ _).alloc (Nat.le_refl _) _
  have hX : Box4 W w.heap.size (.bool l) (.slice a n c) (.slice a' n' c') (.slice a'' n'' c'') := by rw [hW]; exact box4_new _ _ _ _ _ _ rfl
  have cR : ∀ V, Below w.heap.size w V → Calls Try.prog 13 #[.agg #[.bool l, .slice a n c, .slice a' n' c', .slice a'' n'' c''], .bool true] V fun e w' => e = .returned (.bool (rightN l ks vs cs true)) ∧ Below V.heap.size V w' := fun V h => nodeRight_any _ _ _ _ _ _ _ _ _ _ _ _ _ _ _ hn hn' hn'' (hK.below h) (hV.below h) (hC.below h)
  have cN : ∀ V, Calls Try.prog 27 #[.int .i64 n, .int .i64 1] V fun e w' => e = .returned (.string (putS n 1)) ∧ Below V.heap.size V w' := fun V => number_any n 1 V
  have hm : n ≤ 9223372036854775807 := by rw [hn]; exact hK.size
  unfold nPutS nPutE
  cases hr : rightN l ks vs cs true with
  | true =>
    rw [if_pos rfl, if_pos rfl]
    rw [hr] at cR
    obtain ⟨hst, h8, _⟩ := rightN_iff.1 hr
    have hone : (putS n 1).size ≤ 65537 := putS_le _
    cases l with
    | true =>
      obtain ⟨rfl, hlen⟩ := leaf_one_eq hst
      have cP : ∀ V, Below w.heap.size w V → Calls Try.prog 29 #[.agg #[.bool true, .slice a n c, .slice a' n' c', .slice a'' n'' c'']] V fun e w' => e = .returned (.string (cat (leafP ks vs))) ∧ Below V.heap.size V w' := fun V h => pairs_any _ _ _ _ _ _ _ _ _ _ _ _ _ hn hn' (hK.below h) (hV.below h) hst
      have hb := leafP_bound hst ks.length
      rw [List.take_length, List.take_of_length_le (by omega)] at hb
      rw [nodeS_leaf, ← hn]
      generalize putS n 1 = p1 at hone cN
      generalize cat (leafP ks vs) = p2 at hb cP
      have cA : ∀ V, Calls Try.prog 28 #[.slice (some ⟨V.heap.size, 0, none⟩) 2 2] (V.alloc (.cells #[.string p1, .string p2] 9)) fun e w' => e = .returned (.string (cat [p1, p2])) ∧ Below V.heap.size V w' := fun V => all_two p1 p2 V (by omega)
      clear hn hn' hn'' hK hV hC hr hst h8 hone hb
      obtain ⟨⟨q0, q1, q2, q3⟩, -⟩ := id hX
      go_enter Try.func10, Try.ntmps10
      go_wp2_with (first
        | (go_at_call 13; rw [← hW]; refine (cR _ hB0).mono ?_; rintro e w1 ⟨rfl, hb⟩; replace hX := hX.below hb; replace hB0 := Below.tr hB0 hb; clear q0 q1 q2 q3 hb cR; obtain ⟨⟨q0, q1, q2, q3⟩, -⟩ := id hX)
        | (go_at_call 27; refine (cN _).mono ?_; rintro e w1 ⟨rfl, hb⟩; replace hX := hX.below hb; replace hB0 := Below.tr hB0 hb; clear q0 q1 q2 q3 hb cN; obtain ⟨⟨q0, q1, q2, q3⟩, -⟩ := id hX)
        | (go_at_call 29; refine (cP _ hB0).mono ?_; rintro e w1 ⟨rfl, hb⟩; replace hB0 := Below.tr hB0 hb; clear q0 q1 q2 q3 hb cP)
        | (go_at_call 28; refine (cA _).mono ?_; rintro e w1 ⟨rfl, hb⟩; replace hB0 := Below.tr hB0 hb; clear hb))
      go_ret2
      exact ⟨rfl, hB0⟩
    | false =>
      obtain ⟨rfl, hlen, h1⟩ := inner_one_eq hst
      have cP : ∀ V, Below w.heap.size w V → Calls Try.prog 30 #[.agg #[.bool false, .slice a n c, .slice a' n' c', .slice a'' n'' c'']] V fun e w' => e = .returned (.string (cat (innP ks cs ++ [putS (cs.getD ks.length 0) 2]))) ∧ Below V.heap.size V w' := fun V h => children_any _ _ _ _ _ _ _ _ _ _ _ _ _ hn hn'' (hK.below h) (hC.below h) hst
      have hb := kidS_bound hst ks.length (Nat.le_refl _)
      have hb' : (cat (innP ks cs ++ [putS (cs.getD ks.length 0) 2])).size ≤ 326 := by
        have e2 : innP ks (cs.take ks.length) = innP ks cs := by
          conv => rhs; rw [(List.take_append_drop ks.length cs).symm]
          exact (innP_more ks _ _ (by rw [List.length_take]; omega)).symm
        unfold kidS at hb
        rw [List.take_length, e2] at hb
        exact hb
      rw [nodeS_inner, ← hn]
      rw [← hn] at cP hb'
      generalize putS n 1 = p1 at hone cN
      generalize cat (innP ks cs ++ [putS (cs.getD n 0) 2]) = p2 at hb' cP
      have cA : ∀ V, Calls Try.prog 28 #[.slice (some ⟨V.heap.size, 0, none⟩) 2 2] (V.alloc (.cells #[.string p1, .string p2] 9)) fun e w' => e = .returned (.string (cat [p1, p2])) ∧ Below V.heap.size V w' := fun V => all_two p1 p2 V (by omega)
      clear hn hn' hn'' hK hV hC hr hst h8 hone hb hb' hlen h1
      obtain ⟨⟨q0, q1, q2, q3⟩, -⟩ := id hX
      go_enter Try.func10, Try.ntmps10
      go_wp2_with (first
        | (go_at_call 13; rw [← hW]; refine (cR _ hB0).mono ?_; rintro e w1 ⟨rfl, hb⟩; replace hX := hX.below hb; replace hB0 := Below.tr hB0 hb; clear q0 q1 q2 q3 hb cR; obtain ⟨⟨q0, q1, q2, q3⟩, -⟩ := id hX)
        | (go_at_call 27; refine (cN _).mono ?_; rintro e w1 ⟨rfl, hb⟩; replace hX := hX.below hb; replace hB0 := Below.tr hB0 hb; clear q0 q1 q2 q3 hb cN; obtain ⟨⟨q0, q1, q2, q3⟩, -⟩ := id hX)
        | (go_at_call 30; refine (cP _ hB0).mono ?_; rintro e w1 ⟨rfl, hb⟩; replace hB0 := Below.tr hB0 hb; clear q0 q1 q2 q3 hb cP)
        | (go_at_call 28; refine (cA _).mono ?_; rintro e w1 ⟨rfl, hb⟩; replace hB0 := Below.tr hB0 hb; clear hb))
      go_ret2
      exact ⟨rfl, hB0⟩
  | false =>
    rw [if_neg (by decide), if_neg (by decide)]
    rw [hr] at cR
    clear hn hn' hn'' hK hV hC hr
    obtain ⟨⟨q0, q1, q2, q3⟩, -⟩ := id hX
    go_enter Try.func10, Try.ntmps10
    go_wp2_with (go_at_call 13; rw [← hW]; refine (cR _ hB0).mono ?_; rintro e w1 ⟨rfl, hb⟩; replace hX := hX.below hb; replace hB0 := Below.tr hB0 hb; clear q0 q1 q2 q3 hb cR; obtain ⟨⟨q0, q1, q2, q3⟩, -⟩ := id hX)
    go_ret2
    exact ⟨rfl, hB0⟩

theorem put_none : nPutS true [] [] [] = ⟨#[0]⟩ ∧ nPutE true [] [] [] = 0 := by
  constructor
  · unfold nPutS
    rw [if_pos (by decide)]
    decide +kernel
  · unfold nPutE
    rw [if_pos (by decide)]

set_option maxHeartbeats 400000 in
/-- ALIVE. -/
theorem alive07_any (w : World) :
    Calls Try.prog 12 #[] w fun e w' => e = .returned (.bool true) ∧ Below w.heap.size w w' := by
  have cP := nodePut_any true none none none 0 0 0 0 0 0 [] [] [] w rfl rfl rfl (isS_nil _) (isS_nil _) (isI_nil _)
  rw [put_none.1, put_none.2] at cP
  go_enter Try.func12, Try.ntmps12
  go_wp2_with (go_at_call 10; refine cP.mono ?_; rintro e w' ⟨rfl, hb⟩)
  go_ret
  exact ⟨rfl, hb⟩

end Go.Proofs.Ytmhnnfmggdohkaa

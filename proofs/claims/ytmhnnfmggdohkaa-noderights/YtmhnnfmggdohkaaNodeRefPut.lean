/-
  The document's own text, two and Put of nodes.
-/
import Derived.Test.YtmhnnfmggdohkaaNodePut
import Derived.Test.YtmhnnfmggdohkaaRefPut
import Derived.Test.YtmhnnfmggdohkaaRefText
namespace Go.Proofs.Ytmhnnfmggdohkaa
open Go.RowKit Plain
set_option linter.unusedVariables false

set_option maxHeartbeats 400000 in
theorem refNodeText_any (s : ByteArray) (w : World) (hs : s.size ≤ maxLen) :
    Calls Try.prog 32 #[.string s] w fun e w' => e = .returned (.string (textS s)) ∧ Below w.heap.size w w' := by
  go_enter Try.func32, Try.ntmps32
  go_wp2_with (go_at_call 49; refine (refText_any s _ hs).mono ?_; rintro e w' ⟨rfl, hb⟩)
  go_ret
  exact ⟨rfl, hb⟩

set_option maxHeartbeats 400000 in
theorem refNodeTwo_any (n : Int) (w : World) :
    Calls Try.prog 33 #[.int .i64 n] w fun e w' => e = .returned (.string (putS n 2)) ∧ Below w.heap.size w w' := by
  go_enter Try.func33, Try.ntmps33
  go_wp2_with (go_at_call 50; refine (refPut_any n 2 _).mono ?_; rintro e w' ⟨rfl, hb⟩)
  go_ret
  exact ⟨rfl, hb⟩

theorem put_one (n : Nat) (h : n ≤ 255) : ((putL n 1).map cellOf).toArray = #[.int .u8 (n : Int)] := by
  have e0 := byteOf_nat n 0
  have p0 : (2 : Int) ^ (8 * 0) = 1 := by decide
  rw [p0, Int.ediv_one] at e0
  have e0' : ((Plain.byteOf n 0).toNat : Int) = (n : Int) := by omega
  simp only [putL, List.map_cons, List.map_nil, cellOf, e0']

theorem put_one_s (n : Nat) (h : n ≤ 255) : (⟨(putL (n : Int) 1).toArray⟩ : ByteArray) = putS (n : Int) 1 := (putS_ok (one_ok h)).symm

theorem two_on (p : ByteArray) (P : List ByteArray) (x y : ByteArray) : cat (p :: P) ++ x ++ y = cat (p :: (P ++ [x, y])) := ((cat_two_more (p :: P) x y []).2.2).symm

theorem head_on (p : ByteArray) (P : List ByteArray) : (cat (p :: P)).size = p.size + (cat P).size := by
  rw [show p :: P = [p] ++ P by rfl, cat_append, cat_one, ByteArray.size_append]

theorem innP_bound {ks : List ByteArray} {cs : List Int} (h : standsN false ks [] cs = true) (j : Nat) : (cat (innP (ks.take j) (cs.take j))).size ≤ 324 := by
  obtain ⟨h9, hk, _, _, hc, _⟩ := standsN_iff.1 h
  have bc : ∀ c ∈ cs, putOk c 2 = true := fun c hm => two_ok (by have := (hc c hm).1; omega) (by have := (hc c hm).2; omega)
  have h1 := innP_size (ks := ks.take j) (cs := cs.take j) (fun k hm => (hk k (List.mem_of_mem_take hm)).2) (fun v hm => bc v (List.mem_of_mem_take hm))
  have h2 : (ks.take j).length ≤ 9 := by rw [List.length_take]; omega
  omega

set_option maxRecDepth 20000 in
set_option maxHeartbeats 2000000 in
/-- THE DOCUMENT'S PUT, of a leaf that may be. -/
theorem refPutLeaf_any (a a' a'' : Option Addr) (c c' c'' n n' n'' : Nat) (ks vs : List ByteArray) (w : World) (hn : n = ks.length) (hn' : n' = vs.length) (hK : IsS w a c ks) (hV : IsS w a' c' vs) (hs : standsN true ks vs [] = true) :
    Calls Try.prog 14 #[.agg #[.bool true, .slice a n c, .slice a' n' c', .slice a'' n'' c'']] w fun e w' => e = .returned (.string (nodeS true ks vs [])) ∧ Below w.heap.size w w' := by
  obtain ⟨W, hW⟩ : ∃ W, W = w.alloc (.cells #[.bool true, .slice a n c, .slice a' n' c', .slice a'' n'' c''] 25) := ⟨_, rfl⟩
  have hB0 : Below w.heap.size w W := by rw [hW]; exact (Below.refl _ _).alloc (Nat.le_refl _) _
  have hX : Box4 W w.heap.size (.bool true) (.slice a n c) (.slice a' n' c') (.slice a'' n'' c'') := by rw [hW]; exact box4_new _ _ _ _ _ _ rfl
  have hm : n ≤ 9 := by rw [hn]; exact (standsN_iff.1 hs).1
  have HK : Hid (IsS w a c ks) := hK
  have HV : Hid (IsS w a' c' vs) := hV
  have EK : Hid (n = ks.length) := hn
  have hnn : n' = n := by rw [hn, hn']; exact (leaf_one_eq hs).2
  subst hnn
  have EV : Hid (n' = vs.length) := hn'
  have HB : Hid (∀ j, (cat (leafP (ks.take j) (vs.take j))).size ≤ 2124) := leafP_bound hs
  clear hn hn' hK hV hs
  have hcv := conv_row W (putL n' 1) 1 (putL_length _ _) 1
  rw [put_one n' (by omega), put_one_s n' (by omega)] at hcv
  obtain ⟨p, hp⟩ : ∃ p, p = putS (n' : Int) 1 := ⟨_, rfl⟩
  rw [← hp] at hcv
  have HP : Hid (p = putS (n' : Int) 1) := hp
  have hps : p.size ≤ 65537 := by rw [hp]; exact putS_le _
  have hw8 : IntKind.u8.wrap (n' : Int) = n' := by rw [IntKind.wrap]; simp [IntKind.bits]; omega
  clear hp
  have hz : W.heap.size = w.heap.size + 1 := by rw [hW]; simp
  rw [hz] at hcv
  clear hz
  obtain ⟨W2, hW2⟩ : ∃ W2, W2 = W.alloc (.cells #[.int .u8 (n' : Int)] 5) := ⟨_, rfl⟩
  rw [← hW2] at hcv
  have hX2 : Box4 W2 w.heap.size (.bool true) (.slice a n' c) (.slice a' n' c') (.slice a'' n'' c'') := by rw [hW2]; exact hX.alloc _
  have hB2 : Below w.heap.size w W2 := by rw [hW2]; exact hB0.alloc hB0.size _
  obtain ⟨⟨q0, q1, q2, q3⟩, -⟩ := id hX
  have hW2' := hW2
  rw [hW] at hW2'
  rw [hW2'] at hcv
  go_enter Try.func14, Try.ntmps14
  obtain ⟨⟨s0, s1, s2, s3⟩, -⟩ := id hX2
  rw [hW2'] at s0 s1 s2 s3
  go_wp2
  rw [← hW2']
  clear s0 s1 s2 s3 q0 q1 q2 q3 hcv hW hW2 hW2' hX hB0
  go_loopw [3, 15] (fun s v wr => ∃ j : Nat, j ≤ n' ∧ v = .int .i64 j ∧ s = .string (cat (p :: leafP (ks.take j) (vs.take j))) ∧ Below W2.heap.size W2 wr) (fun _ v _ => n' - (intOf v).toNat)
  case atStart => exact ⟨0, by omega, rfl, by simp [leafP, cat_one], Below.refl _ _⟩
  case round =>
    obtain ⟨j, hj, rfl, rfl, hbel⟩ := hrel
    replace hX2 := hX2.below hbel
    replace hB2 := Below.tr hB2 hbel
    obtain ⟨⟨q0, q1, q2, q3⟩, -⟩ := id hX2
    by_cases hlt : j < n'
    · have hlt' : (j : Int) < n' := by omega
      obtain ⟨k, hk⟩ : ∃ x, Hid (ks[j]? = some x) := ⟨_, List.getElem?_eq_getElem (by rw [← EK.out]; exact hlt)⟩
      obtain ⟨v, hv⟩ : ∃ x, Hid (vs[j]? = some x) := ⟨_, List.getElem?_eq_getElem (by rw [← EV.out]; exact hlt)⟩
      obtain ⟨b, o, rfl, hlb, hc0, hxs⟩ := HK.out.2.2 j k hk.out
      obtain ⟨b', o', rfl, hlb', hc0', hxs'⟩ := HV.out.2.2 j v hv.out
      have hck := cell_below hB2 hc0
      have hcv := cell_below hB2 hc0'
      have cT : ∀ V, Calls Try.prog 32 #[.string k] V fun e w' => e = .returned (.string (textS k)) ∧ Below V.heap.size V w' := fun V => refNodeText_any k V hxs
      have cU : ∀ V, Calls Try.prog 32 #[.string v] V fun e w' => e = .returned (.string (textS v)) ∧ Below V.heap.size V w' := fun V => refNodeText_any v V hxs'
      have b1 : (textS k).size ≤ 65537 := textS_le k
      have b2 : (textS v).size ≤ 65537 := textS_le v
      have b3 : (cat (p :: leafP (ks.take j) (vs.take j))).size ≤ 67661 := by rw [head_on]; have := HB.out j; omega
      have hN : Hid (cat (p :: leafP (ks.take j) (vs.take j)) ++ textS k ++ textS v = cat (p :: leafP (ks.take (j + 1)) (vs.take (j + 1)))) := by
        show _ = _
        rw [two_on, take_at' hk.out, take_at' hv.out, leafP_snoc (by rw [List.length_take, List.length_take, ← EK.out, ← EV.out])]
      generalize cat (p :: leafP (ks.take j) (vs.take j)) = s at b3 hN
      generalize textS k = tk at cT b1 hN
      generalize textS v = tv at cU b2 hN
      have a1 : ¬ 9223372036854775807 < s.size + tk.size := by omega
      have a2 : ¬ 9223372036854775807 < s.size + tk.size + tv.size := by omega
      have a3 : ¬ 9223372036854775807 < (s ++ tk).size + tv.size := by rw [ByteArray.size_append]; omega
      clear hc0 hc0' hlb hlb' HB b1 b2 b3
      have tok1 : True := trivial
      have HB := Below.refl wr.heap.size wr
      go_wp2
      replace HB := HB.drew
      go_region_held3 (fun V => V.cell? ⟨w.heap.size, 2, none⟩ = some (.slice (some ⟨b', o', none⟩) n' c') ∧ V.cell? ⟨b', o' + j, none⟩ = some (.string v)) (exact ⟨q2, hcv⟩) (first
        | (go_at_call 32; have _t := tok1; refine (cT _).mono ?_; rintro e w1 ⟨rfl, hb⟩; replace q2 := cell_below hb q2; replace hcv := cell_below hb hcv; replace HB := Below.tr HB hb; clear hb tok1 _t)
        | (go_at_call 32; refine (cU _).mono ?_; rintro e w2 ⟨rfl, hb⟩; replace q2 := cell_below hb q2; replace hcv := cell_below hb hcv; replace HB := Below.tr HB hb; clear hb))
      go_wp2
      go_roundw
      case rel => exact ⟨j + 1, by omega, by go_num, by rw [← hN.out], Below.tr hbel HB⟩
      case measure => simp [intOf]; omega
    · obtain rfl : j = n' := by omega
      have e1 : Hid (cat (p :: leafP (ks.take j) (vs.take j)) = nodeS true ks vs []) := by
        show _ = _
        rw [List.take_of_length_le (by rw [← EK.out]; exact Nat.le_refl _), List.take_of_length_le (by rw [← EV.out]; exact Nat.le_refl _)]
        rw [HP.out, EK.out]
        rfl
      go_wp2
      go_ret
      exact ⟨ret_str (by rw [e1.out]), hB2⟩

set_option maxRecDepth 20000 in
set_option maxHeartbeats 2000000 in
/-- THE DOCUMENT'S PUT, of an inner node that may be. -/
theorem refPutInner_any (a a' a'' : Option Addr) (c c' c'' n n' n'' : Nat) (ks : List ByteArray) (cs : List Int) (w : World) (hn : n = ks.length) (hn'' : n'' = cs.length) (hK : IsS w a c ks) (hC : IsI w a'' c'' cs) (hs : standsN false ks [] cs = true) :
    Calls Try.prog 14 #[.agg #[.bool false, .slice a n c, .slice a' n' c', .slice a'' n'' c'']] w fun e w' => e = .returned (.string (nodeS false ks [] cs)) ∧ Below w.heap.size w w' := by
  obtain ⟨W, hW⟩ : ∃ W, W = w.alloc (.cells #[.bool false, .slice a n c, .slice a' n' c', .slice a'' n'' c''] 25) := ⟨_, rfl⟩
  have hB0 : Below w.heap.size w W := by rw [hW]; exact (Below.refl _ _).alloc (Nat.le_refl _) _
  have hX : Box4 W w.heap.size (.bool false) (.slice a n c) (.slice a' n' c') (.slice a'' n'' c'') := by rw [hW]; exact box4_new _ _ _ _ _ _ rfl
  have hm : n ≤ 9 := by rw [hn]; exact (standsN_iff.1 hs).1
  have HK : Hid (IsS w a c ks) := hK
  have HC : Hid (IsI w a'' c'' cs) := hC
  have EK : Hid (n = ks.length) := hn
  have hnn : n'' = n + 1 := by rw [hn, hn'']; exact (inner_one_eq hs).2.1
  have EC : Hid (n + 1 = cs.length) := by show _ = _; rw [← hn'', hnn]
  subst hnn
  have HB : Hid (∀ j, (cat (innP (ks.take j) (cs.take j))).size ≤ 324) := innP_bound hs
  clear hn hn'' hK hC hs
  have hcv := conv_row W (putL n 1) 1 (putL_length _ _) 1
  rw [put_one n (by omega), put_one_s n (by omega)] at hcv
  obtain ⟨p, hp⟩ : ∃ p, p = putS (n : Int) 1 := ⟨_, rfl⟩
  rw [← hp] at hcv
  have HP : Hid (p = putS (n : Int) 1) := hp
  have hps : p.size ≤ 65537 := by rw [hp]; exact putS_le _
  have hw8 : IntKind.u8.wrap (n : Int) = n := by rw [IntKind.wrap]; simp [IntKind.bits]; omega
  clear hp
  have hz : W.heap.size = w.heap.size + 1 := by rw [hW]; simp
  rw [hz] at hcv
  clear hz
  obtain ⟨W2, hW2⟩ : ∃ W2, W2 = W.alloc (.cells #[.int .u8 (n : Int)] 5) := ⟨_, rfl⟩
  rw [← hW2] at hcv
  have hX2 : Box4 W2 w.heap.size (.bool false) (.slice a n c) (.slice a' n' c') (.slice a'' (n + 1) c'') := by rw [hW2]; exact hX.alloc _
  have hB2 : Below w.heap.size w W2 := by rw [hW2]; exact hB0.alloc hB0.size _
  obtain ⟨⟨q0, q1, q2, q3⟩, -⟩ := id hX
  have hW2' := hW2
  rw [hW] at hW2'
  rw [hW2'] at hcv
  go_enter Try.func14, Try.ntmps14
  obtain ⟨⟨s0, s1, s2, s3⟩, -⟩ := id hX2
  rw [hW2'] at s0 s1 s2 s3
  go_wp2
  rw [← hW2']
  clear s0 s1 s2 s3 q0 q1 q2 q3 hcv hW hW2 hW2' hX hB0
  go_loopw [3, 15] (fun s v wr => ∃ j : Nat, j ≤ n ∧ v = .int .i64 j ∧ s = .string (cat (p :: innP (ks.take j) (cs.take j))) ∧ Below W2.heap.size W2 wr) (fun _ v _ => n - (intOf v).toNat)
  case atStart => exact ⟨0, by omega, rfl, by simp [innP, cat_one], Below.refl _ _⟩
  case round =>
    obtain ⟨j, hj, rfl, rfl, hbel⟩ := hrel
    replace hX2 := hX2.below hbel
    replace hB2 := Below.tr hB2 hbel
    obtain ⟨⟨q0, q1, q2, q3⟩, -⟩ := id hX2
    obtain ⟨d, hd⟩ : ∃ x, Hid (cs[j]? = some x) := ⟨_, List.getElem?_eq_getElem (by rw [← EC.out]; omega)⟩
    obtain ⟨b', o', rfl, hlb', hc0'⟩ := HC.out.2.2 j d hd.out
    have hcv := cell_below hB2 hc0'
    have cU : ∀ V, Calls Try.prog 33 #[.int .i64 d] V fun e w' => e = .returned (.string (putS d 2)) ∧ Below V.heap.size V w' := fun V => refNodeTwo_any d V
    have b2 : (putS d 2).size ≤ 65537 := putS_le d
    have b3 : (cat (p :: innP (ks.take j) (cs.take j))).size ≤ 67661 := by rw [head_on]; have := HB.out j; omega
    have a1 : ¬ 9223372036854775807 < (cat (p :: innP (ks.take j) (cs.take j))).size + (putS d 2).size := by omega
    by_cases hlt : j < n
    · have hlt' : (j : Int) < n := by omega
      obtain ⟨k, hk⟩ : ∃ x, Hid (ks[j]? = some x) := ⟨_, List.getElem?_eq_getElem (by rw [← EK.out]; exact hlt)⟩
      obtain ⟨b, o, rfl, hlb, hc0, hxs⟩ := HK.out.2.2 j k hk.out
      have hck := cell_below hB2 hc0
      have cT : ∀ V, Calls Try.prog 32 #[.string k] V fun e w' => e = .returned (.string (textS k)) ∧ Below V.heap.size V w' := fun V => refNodeText_any k V hxs
      have b1 : (textS k).size ≤ 65537 := textS_le k
      have hN : Hid (cat (p :: innP (ks.take j) (cs.take j)) ++ putS d 2 ++ textS k = cat (p :: innP (ks.take (j + 1)) (cs.take (j + 1)))) := by
        show _ = _
        rw [two_on, take_at' hk.out, take_at' hd.out, innP_snoc (by rw [List.length_take, List.length_take, ← EK.out, ← EC.out]; omega)]
      generalize cat (p :: innP (ks.take j) (cs.take j)) = s at b3 hN a1
      generalize textS k = tk at cT b1 hN
      generalize putS d 2 = tv at cU b2 hN a1
      have a2 : ¬ 9223372036854775807 < s.size + tv.size + tk.size := by omega
      have a3 : ¬ 9223372036854775807 < (s ++ tv).size + tk.size := by rw [ByteArray.size_append]; omega
      clear hc0 hc0' hlb hlb' HB b1 b2 b3
      have hltc : (j : Int) < ((n + 1 : Nat) : Int) := by omega
      have HB := Below.refl wr.heap.size wr
      go_wp2_with (first
        | (go_at_call 33; refine (cU _).mono ?_; rintro e w2 ⟨rfl, hb⟩; replace HB := Below.tr HB hb; clear hb)
        | (go_at_call 32; refine (cT _).mono ?_; rintro e w1 ⟨rfl, hb⟩; replace HB := Below.tr HB hb; clear hb))
      go_roundw
      case rel => exact ⟨j + 1, by omega, by go_num, by rw [← hN.out], Below.tr hbel HB⟩
      case measure => simp [intOf]; omega
    · obtain rfl : j = n := by omega
      have e1 : Hid (cat (p :: innP (ks.take j) (cs.take j)) ++ putS d 2 = nodeS false ks [] cs) := by
        show _ = _
        unfold nodeS nodeP
        rw [if_neg (by decide), ← EK.out, List.getD_eq_getElem?_getD, hd.out]
        have ec : cs = cs.take j ++ cs.drop j := (List.take_append_drop _ _).symm
        have e2 : innP ks (cs.take j) = innP ks cs := by
          conv => rhs; rw [ec]
          exact (innP_more ks _ _ (by rw [List.length_take, ← EC.out, ← EK.out]; omega)).symm
        rw [List.take_of_length_le (by rw [← EK.out]; exact Nat.le_refl _), e2, ← HP.out]
        show _ = cat ((p :: innP ks cs) ++ [putS d 2])
        rw [cat_append, cat_one]
      generalize cat (p :: innP (ks.take j) (cs.take j)) = s at b3 e1 a1
      generalize putS d 2 = tv at cU b2 e1 a1
      have hltc : (j : Int) < ((j + 1 : Nat) : Int) := by omega
      go_wp2_with (go_at_call 33; refine (cU _).mono ?_; rintro e w2 ⟨rfl, hb⟩; replace hB2 := Below.tr hB2 hb; clear hb)
      go_ret
      exact ⟨ret_str (by rw [e1.out]), hB2⟩

/-- THE DOCUMENT'S PUT, of a node that may be. -/
theorem refNodePut_any (l : Bool) (a a' a'' : Option Addr) (c c' c'' n n' n'' : Nat) (ks vs : List ByteArray) (cs : List Int) (w : World) (hn : n = ks.length) (hn' : n' = vs.length) (hn'' : n'' = cs.length) (hK : IsS w a c ks) (hV : IsS w a' c' vs) (hC : IsI w a'' c'' cs) (hr : rightN l ks vs cs true = true) :
    Calls Try.prog 14 #[.agg #[.bool l, .slice a n c, .slice a' n' c', .slice a'' n'' c'']] w fun e w' => e = .returned (.string (nodeS l ks vs cs)) ∧ Below w.heap.size w w' := by
  obtain ⟨hst, _, _⟩ := rightN_iff.1 hr
  cases l with
  | true =>
    obtain ⟨rfl, _⟩ := leaf_one_eq hst
    exact refPutLeaf_any a a' a'' c c' c'' n n' n'' ks vs w hn hn' hK hV hst
  | false =>
    obtain ⟨rfl, _⟩ := inner_one_eq hst
    exact refPutInner_any a a' a'' c c' c'' n n' n'' ks cs w hn hn'' hK hC hst

end Go.Proofs.Ytmhnnfmggdohkaa

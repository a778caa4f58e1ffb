/-
  Texts laid together: NodeJoined NodePart NodeCutting NodeCuttingI NodeCutAll LookOrder LookFacts LookSearch LookWay GrowPlain GrowTree GrowModel GrowIns GrowSpec GrowPutP.
-/
import Derived.Test.YtaecfbfcjaailaaGreatBpA
import Derived.Deep.AppendLies
import Derived.Lib.AppendZeros
import Derived.Test.YtaecfbfcjaailaaGreatBpB
import Derived.Test.YtaecfbfcjaailaaGreatBpC
import Derived.Maps.RangeWalk
namespace Go.Proofs.YtaecfbfcjaailaaGreat
open Go.RowKit Plain
set_option linter.unusedVariables false
theorem append_nil {w : World} (base : Nat) (t ty e : TypeId) (i : TypeInfo) (size m c : Nat) (hm : m = 0) (ht : Tryz.prog.underlying t = some (.slice e)) (hi : Tryz.prog.info? e = some i)
  (v : Value) (n : Nat) (xs : List Value) (hown : w.ownsRow base e size v n xs) :
  (Builtin.append_ #[t, t] ty #[v, .slice none m c]).run Tryz.prog w = .ok v w := by
 subst hm
 rcases hown.2 with ⟨rfl, rfl⟩ | ⟨g, cap, cur, rfl, _, _, hnc, _⟩
 ·
  simp [Builtin.append_, run_underlying ht, sizeOf, typeInfo, hi, Builtin.lenOf, Builtin.firstCells]
 ·
  simp [Builtin.append_, run_underlying ht, sizeOf, typeInfo, hi, Builtin.lenOf, Builtin.firstCells, hnc, storeCells]
theorem IsS.none {w : World} {c : Nat} {l : List ByteArray} (h : IsS w none c l) : l = [] := by
 rcases Nat.eq_zero_or_pos l.length with h0 | h0
 ·
  exact List.length_eq_zero_iff.1 h0
 ·
  obtain ⟨b, o, hh, _⟩ := h.2.2 0 l[0] (List.getElem?_eq_getElem h0)
  cases hh
theorem IsI.none {w : World} {c : Nat} {l : List Int} (h : IsI w none c l) : l = [] := by
 rcases Nat.eq_zero_or_pos l.length with h0 | h0
 ·
  exact List.length_eq_zero_iff.1 h0
 ·
  obtain ⟨b, o, hh, _⟩ := h.2.2 0 l[0] (List.getElem?_eq_getElem h0)
  cases hh
theorem grown_refl (w : World) (r : Option Nat) : w.grownBy w r := ⟨rfl, rfl, rfl, Nat.le_refl _, fun _ _ _ => rfl⟩
theorem append_S (W : World) (base : Nat) (v : Value) (n : Nat) (l : List ByteArray) (hown : W.ownsRow base 9 1 v n (l.map Value.string)) (hb : base ≤ W.heap.size) (a : Option Addr) (c m : Nat) (ys : List ByteArray) (hm : m = ys.length) (hY : IsS W a c ys) (hn : n + m ≤ 4096) :
  ∃ v' w', (Builtin.append_ #[25, 25] 25 #[v, .slice a m c]).run Tryz.prog W = .ok v' w' ∧
   w'.ownsRow base 9 1 v' (n + m) ((l ++ ys).map Value.string) ∧ W.grownBy w' v.ownBlock ∧ (v'.ownBlock = v.ownBlock ∨ v'.ownBlock = some W.heap.size) := by
 obtain ⟨i0, hi, hz0, hz1, hz2⟩ := info_parts Tryz.info9
 cases a with
 | none =>
  have h0 := hY.none
  subst h0
  have hm0 : m = 0 := hm
  refine ⟨v, W, append_nil base _ _ _ i0 1 m c hm0 Tryz.underlying25 hi _ _ _ hown, ?_, grown_refl _ _, .inl rfl⟩
  rw [hm0, List.append_nil]; exact hown
 | some ad =>
  obtain ⟨v', w', hr, h2, h3, h4, h5⟩ := run_append_own_at (P := Tryz.prog) W base 25 25 9 i0 _ 1 16 Tryz.underlying25 hi hz0 hz1 hz2 rfl (by decide) v n (l.map Value.string) hown ad m c (ys.map Value.string) (by simp [hm])
   (by
    intro j u hj
    rw [List.getElem?_map] at hj
    cases hx : ys[j]? with
    | none => rw [hx] at hj; cases hj
    | some x =>
     rw [hx] at hj
     cases hj
     obtain ⟨b, o, hh, _, hc, _⟩ := hY.2.2 j x hx
     cases hh
     rw [at_add]; exact hc)
   (fun u hu => by obtain ⟨x, _, rfl⟩ := List.mem_map.1 hu; rfl) (by unfold maxLen; omega) (by omega) hb
  exact ⟨v', w', hr, by rw [List.map_append]; exact h2, h3, h5⟩
theorem append_I (W : World) (base : Nat) (v : Value) (n : Nat) (l : List Int) (hown : W.ownsRow base 3 1 v n (l.map (Value.int .i64))) (hb : base ≤ W.heap.size) (a : Option Addr) (c m : Nat) (ys : List Int) (hm : m = ys.length) (hY : IsI W a c ys) (hn : n + m ≤ 4096) :
  ∃ v' w', (Builtin.append_ #[38, 38] 38 #[v, .slice a m c]).run Tryz.prog W = .ok v' w' ∧
   w'.ownsRow base 3 1 v' (n + m) ((l ++ ys).map (Value.int .i64)) ∧ W.grownBy w' v.ownBlock ∧ (v'.ownBlock = v.ownBlock ∨ v'.ownBlock = some W.heap.size) := by
 obtain ⟨i0, hi, hz0, hz1, hz2⟩ := info_parts Tryz.info3
 cases a with
 | none =>
  have h0 := hY.none
  subst h0
  have hm0 : m = 0 := hm
  refine ⟨v, W, append_nil base _ _ _ i0 1 m c hm0 Tryz.underlying38 hi _ _ _ hown, ?_, grown_refl _ _, .inl rfl⟩
  rw [hm0, List.append_nil]; exact hown
 | some ad =>
  obtain ⟨v', w', hr, h2, h3, h4, h5⟩ := run_append_own_at (P := Tryz.prog) W base 38 38 3 i0 _ 1 8 Tryz.underlying38 hi hz0 hz1 hz2 rfl (by decide) v n (l.map (Value.int .i64)) hown ad m c (ys.map (Value.int .i64)) (by simp [hm])
   (by
    intro j u hj
    rw [List.getElem?_map] at hj
    cases hx : ys[j]? with
    | none => rw [hx] at hj; cases hj
    | some x =>
     rw [hx] at hj
     cases hj
     obtain ⟨b, o, hh, _, hc⟩ := hY.2.2 j x hx
     cases hh
     rw [at_add]; exact hc)
   (fun u hu => by obtain ⟨x, _, rfl⟩ := List.mem_map.1 hu; rfl) (by unfold maxLen; omega) (by omega) hb
  exact ⟨v', w', hr, by rw [List.map_append]; exact h2, h3, h5⟩
def RowsS (w : World) (H : Nat) (rs : List (Option Addr × Nat × List ByteArray)) : Prop :=
 ∀ i r, rs[i]? = some r → w.cell? ⟨H, i, none⟩ = some (.slice r.1 r.2.2.length r.2.1) ∧ IsS w r.1 r.2.1 r.2.2
def flatS (rs : List (Option Addr × Nat × List ByteArray)) : List ByteArray := rs.flatMap fun r => r.2.2
theorem flatS_take {rs : List (Option Addr × Nat × List ByteArray)} {i : Nat} {r : Option Addr × Nat × List ByteArray} (h : rs[i]? = some r) : flatS (rs.take (i + 1)) = flatS (rs.take i) ++ r.2.2 := by
 unfold flatS
 rw [List.take_add_one, h, List.flatMap_append]
 simp
theorem flatS_le (rs : List (Option Addr × Nat × List ByteArray)) (i : Nat) : (flatS (rs.take i)).length ≤ (flatS rs).length := by
 have e : flatS rs = flatS (rs.take i) ++ flatS (rs.drop i) := by
  unfold flatS
  rw [← List.flatMap_append, List.take_append_drop]
 rw [e, List.length_append]; omega
set_option maxRecDepth 20000 in
set_option maxHeartbeats 1000000 in
theorem joinedS_any (H k n : Nat) (rs : List (Option Addr × Nat × List ByteArray)) (w : World) (hR : RowsS w H rs) (hk : k = rs.length) (hl : (flatS rs).length ≤ 4096) (hk9 : k ≤ 9) (hn : n = (flatS rs).length) :
  Calls Tryz.prog 129 #[.slice (some ⟨H, 0, none⟩) k k] w fun e w' => ∃ a c, e = .returned (.slice a n c) ∧ IsS w' a c (flatS rs) ∧ From w.heap.size a ∧ Below w.heap.size w w' := by
 have HR : Hid (RowsS w H rs) := hR
 have HK : Hid (k = rs.length) := hk
 have HL : Hid ((flatS rs).length ≤ 4096) := hl
 have HN : Hid (n = (flatS rs).length) := hn
 clear hR hk hl hn
 go_enter Tryz.func129, Tryz.ntmps129
 go_wp2
 go_loopw [3, 8] (fun v i wr => ∃ j : Nat, j ≤ k ∧ i = .int .i64 j ∧ wr.ownsRow w.heap.size 9 1 v (flatS (rs.take j)).length ((flatS (rs.take j)).map Value.string) ∧ Below w.heap.size w wr) (fun _ i _ => k - (intOf i).toNat)
 case atStart => exact ⟨0, by omega, rfl, World.ownsRow_nil _ _ _ _, Below.refl _ _⟩
 case round =>
  obtain ⟨j, hj, rfl, hown, hbel⟩ := hrel
  by_cases hlt : j < k
  ·
   have hlt' : (j : Int) < k := by omega
   obtain ⟨r, hr⟩ : ∃ r, rs[j]? = some r := ⟨_, List.getElem?_eq_getElem (by rw [← HK.out]; exact hlt)⟩
   obtain ⟨hc0, hI⟩ := HR.out j r hr
   have hc := cell_below hbel hc0
   obtain ⟨a, c, ys⟩ := r
   have hf := flatS_take hr
   have hle := flatS_le rs (j + 1)
   simp only at hc hI hf
   have hle2 := HL.out
   obtain ⟨v', w', hrun, hown', hgr, _⟩ := append_S wr w.heap.size _ _ _ hown hbel.size a c ys.length ys rfl (hI.below hbel) (by rw [hf, List.length_append] at hle; omega)
   have HO : Hid (w'.ownsRow w.heap.size 9 1 v' (flatS (rs.take (j + 1))).length ((flatS (rs.take (j + 1))).map Value.string)) := by
    show World.ownsRow _ _ _ _ _ _ _
    rw [hf, List.length_append]; exact hown'
   have HB : Hid (Below w.heap.size w w') := hbel.grown hgr hbel.size fun g hg => (hown.lt g hg).1
   clear hown hown' hgr hr hc0 hI hf hle hle2 hbel
   go_wp2_with (at_builtin; refine Lib.wpList_append_run _ rfl _ _ _ _ rfl _ _ rfl rfl _ _ hrun ?_)
   go_roundw
   case rel => exact ⟨j + 1, by omega, by go_num, HO.out, HB.out⟩
   case measure => simp [intOf]; omega
  ·
   obtain rfl : j = k := by omega
   have ht : rs.take j = rs := List.take_of_length_le (by rw [← HK.out]; exact Nat.le_refl _)
   rw [ht] at hown
   obtain ⟨a, c, rfl, hn, hI, hF⟩ := owns_S hown (fun x hx => by
    obtain ⟨r, hr, hx⟩ := List.mem_flatMap.1 hx
    obtain ⟨i, hi⟩ := List.getElem?_of_mem hr
    obtain ⟨q, hq⟩ := List.getElem?_of_mem hx
    obtain ⟨_, _, _, _, _, hs⟩ := (HR.out i r hi).2.2.2 q x hq
    exact hs)
   have HI : Hid (IsS wr a c (flatS rs) ∧ From w.heap.size a) := ⟨hI, hF⟩
   clear hown hI hF hn ht
   rw [← HN.out]
   go_wp2
   go_ret
   exact ⟨a, c, rfl, HI.out.1, HI.out.2, hbel⟩
def RowsI (w : World) (H : Nat) (rs : List (Option Addr × Nat × List Int)) : Prop :=
 ∀ i r, rs[i]? = some r → w.cell? ⟨H, i, none⟩ = some (.slice r.1 r.2.2.length r.2.1) ∧ IsI w r.1 r.2.1 r.2.2
def flatI (rs : List (Option Addr × Nat × List Int)) : List Int := rs.flatMap fun r => r.2.2
theorem flatI_take {rs : List (Option Addr × Nat × List Int)} {i : Nat} {r : Option Addr × Nat × List Int} (h : rs[i]? = some r) : flatI (rs.take (i + 1)) = flatI (rs.take i) ++ r.2.2 := by
 unfold flatI
 rw [List.take_add_one, h, List.flatMap_append]
 simp
theorem flatI_le (rs : List (Option Addr × Nat × List Int)) (i : Nat) : (flatI (rs.take i)).length ≤ (flatI rs).length := by
 have e : flatI rs = flatI (rs.take i) ++ flatI (rs.drop i) := by
  unfold flatI
  rw [← List.flatMap_append, List.take_append_drop]
 rw [e, List.length_append]; omega
set_option maxRecDepth 20000 in
set_option maxHeartbeats 1000000 in
theorem joinedI_any (H k n : Nat) (rs : List (Option Addr × Nat × List Int)) (w : World) (hR : RowsI w H rs) (hk : k = rs.length) (hl : (flatI rs).length ≤ 4096) (hk9 : k ≤ 9) (hn : n = (flatI rs).length) :
  Calls Tryz.prog 130 #[.slice (some ⟨H, 0, none⟩) k k] w fun e w' => ∃ a c, e = .returned (.slice a n c) ∧ IsI w' a c (flatI rs) ∧ From w.heap.size a ∧ Below w.heap.size w w' := by
 have HR : Hid (RowsI w H rs) := hR
 have HK : Hid (k = rs.length) := hk
 have HL : Hid ((flatI rs).length ≤ 4096) := hl
 have HN : Hid (n = (flatI rs).length) := hn
 clear hR hk hl hn
 go_enter Tryz.func130, Tryz.ntmps130
 go_wp2
 go_loopw [3, 8] (fun v i wr => ∃ j : Nat, j ≤ k ∧ i = .int .i64 j ∧ wr.ownsRow w.heap.size 3 1 v (flatI (rs.take j)).length ((flatI (rs.take j)).map (Value.int .i64)) ∧ Below w.heap.size w wr) (fun _ i _ => k - (intOf i).toNat)
 case atStart => exact ⟨0, by omega, rfl, World.ownsRow_nil _ _ _ _, Below.refl _ _⟩
 case round =>
  obtain ⟨j, hj, rfl, hown, hbel⟩ := hrel
  by_cases hlt : j < k
  ·
   have hlt' : (j : Int) < k := by omega
   obtain ⟨r, hr⟩ : ∃ r, rs[j]? = some r := ⟨_, List.getElem?_eq_getElem (by rw [← HK.out]; exact hlt)⟩
   obtain ⟨hc0, hI⟩ := HR.out j r hr
   have hc := cell_below hbel hc0
   obtain ⟨a, c, ys⟩ := r
   have hf := flatI_take hr
   have hle := flatI_le rs (j + 1)
   simp only at hc hI hf
   have hle2 := HL.out
   obtain ⟨v', w', hrun, hown', hgr, _⟩ := append_I wr w.heap.size _ _ _ hown hbel.size a c ys.length ys rfl (hI.below hbel) (by rw [hf, List.length_append] at hle; omega)
   have HO : Hid (w'.ownsRow w.heap.size 3 1 v' (flatI (rs.take (j + 1))).length ((flatI (rs.take (j + 1))).map (Value.int .i64))) := by
    show World.ownsRow _ _ _ _ _ _ _
    rw [hf, List.length_append]; exact hown'
   have HB : Hid (Below w.heap.size w w') := hbel.grown hgr hbel.size fun g hg => (hown.lt g hg).1
   clear hown hown' hgr hr hc0 hI hf hle hle2 hbel
   go_wp2_with (at_builtin; refine Lib.wpList_append_run _ rfl _ _ _ _ rfl _ _ rfl rfl _ _ hrun ?_)
   go_roundw
   case rel => exact ⟨j + 1, by omega, by go_num, HO.out, HB.out⟩
   case measure => simp [intOf]; omega
  ·
   obtain rfl : j = k := by omega
   have ht : rs.take j = rs := List.take_of_length_le (by rw [← HK.out]; exact Nat.le_refl _)
   rw [ht] at hown
   obtain ⟨a, c, rfl, hn, hI, hF⟩ := owns_I hown 
   have HI : Hid (IsI wr a c (flatI rs) ∧ From w.heap.size a) := ⟨hI, hF⟩
   clear hown hI hF hn ht
   rw [← HN.out]
   go_wp2
   go_ret
   exact ⟨a, c, rfl, HI.out.1, HI.out.2, hbel⟩
theorem joined1S (W : World) (a : Option Addr) (c n : Nat) (xs : List ByteArray) (hn : n = xs.length) (h : IsS W a c xs) (h9 : n ≤ 30) :
  Calls Tryz.prog 129 #[.slice (some ⟨W.heap.size, 0, none⟩) 1 1] (W.alloc (.cells #[.slice a n c] 25)) fun e w' => ∃ b d, e = .returned (.slice b n d) ∧ IsS w' b d xs ∧ From W.heap.size b ∧ Below W.heap.size W w' := by
 have hA := (Below.refl W.heap.size W).alloc (Nat.le_refl _) (.cells #[.slice a n c] 25)
 have hf : flatS [(a, c, xs)] = xs := by simp [flatS]
 have := joinedS_any W.heap.size 1 n [(a, c, xs)] (W.alloc (.cells #[.slice a n c] 25)) (by
  intro i r hr
  match i, hr with
  | 0, hr => cases hr; exact ⟨by rw [hn]; exact World.cell?_alloc_at _ _ _ _ rfl, h.below hA⟩) rfl (by rw [hf]; omega) (by omega) (by rw [hf]; exact hn)
 rw [hf] at this
 exact this.mono fun e w' ⟨b, d, he, hi, hfr, hb⟩ => ⟨b, d, he, hi, hfr.mono (by simp), hA.trans (hb.mono (by simp))⟩
theorem joined1I (W : World) (a : Option Addr) (c n : Nat) (xs : List Int) (hn : n = xs.length) (h : IsI W a c xs) (h9 : n ≤ 30) :
  Calls Tryz.prog 130 #[.slice (some ⟨W.heap.size, 0, none⟩) 1 1] (W.alloc (.cells #[.slice a n c] 38)) fun e w' => ∃ b d, e = .returned (.slice b n d) ∧ IsI w' b d xs ∧ From W.heap.size b ∧ Below W.heap.size W w' := by
 have hA := (Below.refl W.heap.size W).alloc (Nat.le_refl _) (.cells #[.slice a n c] 38)
 have hf : flatI [(a, c, xs)] = xs := by simp [flatI]
 have := joinedI_any W.heap.size 1 n [(a, c, xs)] (W.alloc (.cells #[.slice a n c] 38)) (by
  intro i r hr
  match i, hr with
  | 0, hr => cases hr; exact ⟨by rw [hn]; exact World.cell?_alloc_at _ _ _ _ rfl, h.below hA⟩) rfl (by rw [hf]; omega) (by omega) (by rw [hf]; exact hn)
 rw [hf] at this
 exact this.mono fun e w' ⟨b, d, he, hi, hfr, hb⟩ => ⟨b, d, he, hi, hfr.mono (by simp), hA.trans (hb.mono (by simp))⟩
theorem isS_one (W : World) (x : ByteArray) (hx : x.size ≤ maxLen) : IsS (W.alloc (.cells #[.string x] 9)) (some ⟨W.heap.size, 0, none⟩) 1 [x] := by
 refine ⟨Nat.le_refl _, by unfold maxLen; omega, fun j d hd => ?_⟩
 match j, hd with
 | 0, hd =>
  simp at hd
  subst hd
  exact ⟨W.heap.size, 0, rfl, by simp, World.cell?_alloc_at _ _ _ _ rfl, hx⟩
set_option maxRecDepth 20000 in
set_option maxHeartbeats 1000000 in
theorem leafPart_any (a a' : Option Addr) (c c' n n' : Nat) (xs ys : List ByteArray) (w : World) (hn : n = xs.length) (hn' : n' = ys.length) (h : IsS w a c xs) (h' : IsS w a' c' ys) (h9 : n ≤ 30) (h9' : n' ≤ 30) :
  Calls Tryz.prog 105 #[.slice a n c, .slice a' n' c'] w fun e w' => ∃ b d b' d', e = .returned (.agg #[.bool true, .slice b n d, .slice b' n' d', .slice none 0 0]) ∧ IsS w' b d xs ∧ IsS w' b' d' ys ∧ From w.heap.size b ∧ From w.heap.size b' ∧ Below w.heap.size w w' := by
 obtain ⟨W0, hW0⟩ : ∃ W0, W0 = w.alloc (.cells #[.bool false, .slice none 0 0, .slice none 0 0, .slice none 0 0] 76) := ⟨_, rfl⟩
 have b00 : Box4 W0 w.heap.size (.bool false) (.slice none 0 0) (.slice none 0 0) (.slice none 0 0) := by rw [hW0]; exact box4_new _ _ _ _ _ _ rfl
 have HB : Below w.heap.size w W0 := by rw [hW0]; exact (Below.refl _ _).alloc (Nat.le_refl _) _
 have hz0 : W0.heap.size = w.heap.size + 1 := by rw [hW0]; simp
 have c1 : Calls Tryz.prog 129 #[.slice (some ⟨w.heap.size + 1, 0, none⟩) 1 1] (W0.alloc (.cells #[.slice a n c] 25)) fun e w' => ∃ b d, e = .returned (.slice b n d) ∧ IsS w' b d xs ∧ From W0.heap.size b ∧ Below W0.heap.size W0 w' := by rw [← hz0]; exact joined1S W0 a c n xs hn (h.below HB) h9
 have c2 : ∀ V, Below w.heap.size w V → Calls Tryz.prog 129 #[.slice (some ⟨V.heap.size, 0, none⟩) 1 1] (V.alloc (.cells #[.slice a' n' c'] 25)) fun e w' => ∃ b d, e = .returned (.slice b n' d) ∧ IsS w' b d ys ∧ From V.heap.size b ∧ Below V.heap.size V w' := fun V hV => joined1S V a' c' n' ys hn' (h'.below hV) h9'
 have hsz : w.heap.size < W0.heap.size := by omega
 have tok1 : True := trivial
 clear hn hn' h h' h9 h9' hz0
 go_enter Tryz.func105, Tryz.ntmps105
 go_wp2_with (first
  | (go_at_call 129; have _t := tok1; rw [← hW0]; refine c1.mono ?_; rintro y w1 ⟨b, d, rfl, i1, j1, hb⟩; replace b00 := b00.below hb; replace HB := Below.tr HB hb; have I1 : Hid (IsS w1 b d xs) := i1; have J1 : Hid (From W0.heap.size b) := j1; have hs1 : W0.heap.size ≤ w1.heap.size := hb.size; clear i1 j1 hb tok1 _t c1)
  | (go_at_call 129; refine (c2 _ HB).mono ?_; rintro y w2 ⟨b', d', rfl, i2, j2, hb⟩; replace b00 := b00.below hb; replace HB := Below.tr HB hb; replace I1 : Hid (IsS w2 b d xs) := I1.out.below hb; have I2 : Hid (IsS w2 b' d' ys) := i2; have J2 : Hid (From w1.heap.size b') := j2; obtain ⟨⟨r0, r1, r2, r3⟩, g0, g1, g2, g3⟩ := id b00; clear i2 j2 hb))
 have T4 := turns_put4 w2 w.heap.size (.bool true) (.slice b n d) (.slice b' n' d') (.slice none 0 0)
 refine bodyPost_ret (v := .agg #[.bool true, .slice b n d, .slice b' n' d', .slice none 0 0]) (by simp [results, Tryz.results105, go_sem, r0, r1, r2, r3]) rfl ⟨b, d, b', d', rfl, I1.out.turns T4 (fun x hx e => by have := J1.out x hx; omega), I2.out.turns T4 (fun x hx e => by have := J2.out x hx; omega), J1.out.mono (by omega), J2.out.mono (by omega), Below.turns HB T4 (fun k hk => by omega)⟩
set_option maxRecDepth 20000 in
set_option maxHeartbeats 1000000 in
theorem innerPart_any (a a' : Option Addr) (c c' n n' : Nat) (xs : List ByteArray) (ys : List Int) (w : World) (hn : n = xs.length) (hn' : n' = ys.length) (h : IsS w a c xs) (h' : IsI w a' c' ys) (h9 : n ≤ 30) (h9' : n' ≤ 30) :
  Calls Tryz.prog 106 #[.slice a n c, .slice a' n' c'] w fun e w' => ∃ b d b' d', e = .returned (.agg #[.bool false, .slice b n d, .slice none 0 0, .slice b' n' d']) ∧ IsS w' b d xs ∧ IsI w' b' d' ys ∧ From w.heap.size b ∧ From w.heap.size b' ∧ Below w.heap.size w w' := by
 obtain ⟨W0, hW0⟩ : ∃ W0, W0 = w.alloc (.cells #[.bool false, .slice none 0 0, .slice none 0 0, .slice none 0 0] 76) := ⟨_, rfl⟩
 have b00 : Box4 W0 w.heap.size (.bool false) (.slice none 0 0) (.slice none 0 0) (.slice none 0 0) := by rw [hW0]; exact box4_new _ _ _ _ _ _ rfl
 have HB : Below w.heap.size w W0 := by rw [hW0]; exact (Below.refl _ _).alloc (Nat.le_refl _) _
 have hz0 : W0.heap.size = w.heap.size + 1 := by rw [hW0]; simp
 have c1 : Calls Tryz.prog 129 #[.slice (some ⟨w.heap.size + 1, 0, none⟩) 1 1] (W0.alloc (.cells #[.slice a n c] 25)) fun e w' => ∃ b d, e = .returned (.slice b n d) ∧ IsS w' b d xs ∧ From W0.heap.size b ∧ Below W0.heap.size W0 w' := by rw [← hz0]; exact joined1S W0 a c n xs hn (h.below HB) h9
 have c2 : ∀ V, Below w.heap.size w V → Calls Tryz.prog 130 #[.slice (some ⟨V.heap.size, 0, none⟩) 1 1] (V.alloc (.cells #[.slice a' n' c'] 38)) fun e w' => ∃ b d, e = .returned (.slice b n' d) ∧ IsI w' b d ys ∧ From V.heap.size b ∧ Below V.heap.size V w' := fun V hV => joined1I V a' c' n' ys hn' (h'.below hV) h9'
 have hsz : w.heap.size < W0.heap.size := by omega
 have tok1 : True := trivial
 clear hn hn' h h' h9 h9' hz0
 go_enter Tryz.func106, Tryz.ntmps106
 go_wp2_with (first
  | (go_at_call 129; have _t := tok1; rw [← hW0]; refine c1.mono ?_; rintro y w1 ⟨b, d, rfl, i1, j1, hb⟩; replace b00 := b00.below hb; replace HB := Below.tr HB hb; have I1 : Hid (IsS w1 b d xs) := i1; have J1 : Hid (From W0.heap.size b) := j1; have hs1 : W0.heap.size ≤ w1.heap.size := hb.size; clear i1 j1 hb tok1 _t c1)
  | (go_at_call 130; refine (c2 _ HB).mono ?_; rintro y w2 ⟨b', d', rfl, i2, j2, hb⟩; replace b00 := b00.below hb; replace HB := Below.tr HB hb; replace I1 : Hid (IsS w2 b d xs) := I1.out.below hb; have I2 : Hid (IsI w2 b' d' ys) := i2; have J2 : Hid (From w1.heap.size b') := j2; obtain ⟨⟨r0, r1, r2, r3⟩, g0, g1, g2, g3⟩ := id b00; clear i2 j2 hb))
 have T4 := turns_put4 w2 w.heap.size (.bool false) (.slice b n d) (.slice none 0 0) (.slice b' n' d')
 refine bodyPost_ret (v := .agg #[.bool false, .slice b n d, .slice none 0 0, .slice b' n' d']) (by simp [results, Tryz.results106, go_sem, r0, r1, r2, r3]) rfl ⟨b, d, b', d', rfl, I1.out.turns T4 (fun x hx e => by have := J1.out x hx; omega), I2.out.turns T4 (fun x hx e => by have := J2.out x hx; omega), J1.out.mono (by omega), J2.out.mono (by omega), Below.turns HB T4 (fun k hk => by omega)⟩
end Go.Proofs.YtaecfbfcjaailaaGreat
namespace Go.Proofs.YtaecfbfcjaailaaGreat
open Go.RowKit Plain Anylast
set_option linter.unusedVariables false
theorem isS_drop {w : World} {b o c : Nat} {xs : List ByteArray} (h : IsS w (some ⟨b, o, none⟩) c xs) (k : Nat) (hk : k ≤ xs.length) : IsS w (some ⟨b, o + k, none⟩) (c - k) (xs.drop k) := by
 refine ⟨by rw [List.length_drop]; have := h.1; omega, by have := h.2.1; omega, fun j x hx => ?_⟩
 rw [List.getElem?_drop] at hx
 obtain ⟨b2, o2, ha, hl, hc, hs⟩ := h.2.2 (k + j) x hx
 cases ha
 exact ⟨b, o + k, rfl, hl, by rw [Nat.add_assoc]; exact hc, hs⟩
theorem isI_drop {w : World} {b o c : Nat} {xs : List Int} (h : IsI w (some ⟨b, o, none⟩) c xs) (k : Nat) (hk : k ≤ xs.length) : IsI w (some ⟨b, o + k, none⟩) (c - k) (xs.drop k) := by
 refine ⟨by rw [List.length_drop]; have := h.1; omega, by have := h.2.1; omega, fun j x hx => ?_⟩
 rw [List.getElem?_drop] at hx
 obtain ⟨b2, o2, ha, hl, hc⟩ := h.2.2 (k + j) x hx
 cases ha
 exact ⟨b, o + k, rfl, hl, by rw [Nat.add_assoc]; exact hc⟩
def LaidS (V0 V : World) (g : Nat) (p : Option Addr) (q : Nat) (p' : Option Addr) (q' n : Nat) (xs ys : List ByteArray) : Prop :=
 Box4 V g (.bool true) (.slice p n q) (.slice p' n q') (.slice none 0 0) ∧ V0.heap.size ≤ g ∧ Below V0.heap.size V0 V ∧ IsS V p q xs ∧ IsS V p' q' ys ∧ From V0.heap.size p ∧ From V0.heap.size p'
def cutV (va vk vb : Value) (h1 b o : Nat) (mid : ByteArray) : Nat → Value
 | 0 => va
 | 1 => .pointer (some ⟨h1, 1, none⟩)
 | 2 => vk
 | 3 => .pointer (some ⟨b, o + 4, none⟩)
 | 4 => .string mid
 | 5 => vb
 | 7 => .string mid
 | 9 => .int .i64 0
 | _ => undef
set_option maxRecDepth 20000 in
set_option maxHeartbeats 1000000 in
theorem cutLeaf_any (b o c b' o' c' : Nat) (a'' : Option Addr) (c'' n'' : Nat) (ks vs : List ByteArray) (w : World)
  (hn : 9 = ks.length) (hn' : 9 = vs.length) (hn'' : n'' = ([] : List Int).length) (hK : IsS w (some ⟨b, o, none⟩) c ks) (hV : IsS w (some ⟨b', o', none⟩) c' vs) (hC : IsI w a'' c'' []) (hs : standsN true ks vs [] = true) {mid : ByteArray} (hmid : ks[4]? = some mid) :
  Calls Tryz.prog 87 #[.agg #[.bool true, .slice (some ⟨b, o, none⟩) 9 c, .slice (some ⟨b', o', none⟩) 9 c', .slice a'' n'' c'']] w fun x w' => ∃ p q p' q' r s r' s', x = .returned (.tuple #[.agg #[.bool true, .slice p 4 q, .slice p' 4 q', .slice none 0 0], .string mid, .agg #[.bool true, .slice r 5 s, .slice r' 5 s', .slice none 0 0], .int .i64 0]) ∧
   IsS w' p q (ks.take 4) ∧ IsS w' p' q' (vs.take 4) ∧ IsS w' r s (ks.drop 4) ∧ IsS w' r' s' (vs.drop 4) ∧ (From w.heap.size p ∧ From w.heap.size p' ∧ From w.heap.size r ∧ From w.heap.size r') ∧ Below w.heap.size w w' := by
 obtain ⟨W, hW⟩ : ∃ W, W = ((w.alloc (.cells #[.bool true, .slice (some ⟨b, o, none⟩) 9 c, .slice (some ⟨b', o', none⟩) 9 c', .slice a'' n'' c''] 76)).alloc (.cells #[.bool false, .slice none 0 0, .slice none 0 0, .slice none 0 0] 76)).alloc (.cells #[.bool false, .slice none 0 0, .slice none 0 0, .slice none 0 0] 76) := ⟨_, rfl⟩
 have A1 : Box4 W w.heap.size (.bool true) (.slice (some ⟨b, o, none⟩) 9 c) (.slice (some ⟨b', o', none⟩) 9 c') (.slice a'' n'' c'') := by rw [hW]; exact ((box4_new _ _ _ _ _ _ rfl).alloc _).alloc _
 have A2 : Box4 W (w.heap.size + 1) (.bool false) (.slice none 0 0) (.slice none 0 0) (.slice none 0 0) := by rw [hW]; exact (box4_new _ _ _ _ _ _ (by simp)).alloc _
 have A4 : Box4 W (w.heap.size + 2) (.bool false) (.slice none 0 0) (.slice none 0 0) (.slice none 0 0) := by rw [hW]; exact box4_new _ _ _ _ _ _ (by simp)
 have HB : Below w.heap.size w W := by rw [hW]; exact (((Below.refl _ _).alloc (Nat.le_refl _) _).alloc (by simp) _).alloc (by simp; omega) _
 have c1 : ∀ V, Below w.heap.size w V → Calls Tryz.prog 81 #[.agg #[.bool true, .slice (some ⟨b, o, none⟩) 9 c, .slice (some ⟨b', o', none⟩) 9 c', .slice a'' n'' c'']] V fun e w' => e = .returned (.bool true) ∧ Below V.heap.size V w' := fun V h => by have := mayStand_any true (some ⟨b, o, none⟩) (some ⟨b', o', none⟩) a'' c c' c'' 9 9 n'' ks vs [] V hn hn' hn'' (hK.below h) (hV.below h) (hC.below h); rw [hs] at this; exact this
 have cP : ∀ V, Below w.heap.size w V → Calls Tryz.prog 105 #[.slice (some ⟨b, o, none⟩) 4 c, .slice (some ⟨b', o', none⟩) 4 c'] V fun e w' => ∃ p q p' q', e = .returned (.agg #[.bool true, .slice p 4 q, .slice p' 4 q', .slice none 0 0]) ∧ IsS w' p q (ks.take 4) ∧ IsS w' p' q' (vs.take 4) ∧ From V.heap.size p ∧ From V.heap.size p' ∧ Below V.heap.size V w' := fun V h => leafPart_any _ _ c c' 4 4 (ks.take 4) (vs.take 4) V (by rw [List.length_take]; omega) (by rw [List.length_take]; omega) ((hK.take 4).below h) ((hV.take 4).below h) (by omega) (by omega)
 have cQ : ∀ V, Below w.heap.size w V → Calls Tryz.prog 105 #[.slice (some ⟨b, o + 4, none⟩) 5 (c - 4), .slice (some ⟨b', o' + 4, none⟩) 5 (c' - 4)] V fun e w' => ∃ p q p' q', e = .returned (.agg #[.bool true, .slice p 5 q, .slice p' 5 q', .slice none 0 0]) ∧ IsS w' p q (ks.drop 4) ∧ IsS w' p' q' (vs.drop 4) ∧ From V.heap.size p ∧ From V.heap.size p' ∧ Below V.heap.size V w' := fun V h => leafPart_any _ _ _ _ 5 5 (ks.drop 4) (vs.drop 4) V (by rw [List.length_drop]; omega) (by rw [List.length_drop]; omega) ((isS_drop hK 4 (by omega)).below h) ((isS_drop hV 4 (by omega)).below h) (by omega) (by omega)
 obtain ⟨_, _, hbo, hbl, hcm, hms⟩ := hK.2.2 4 mid hmid
 cases hbo
 have hc9 : 9 ≤ c := by rw [hn]; exact hK.1
 have hc9' : 9 ≤ c' := by rw [hn']; exact hV.1
 have hcM : c ≤ 9223372036854775807 := hK.2.1
 have hcM' : c' ≤ 9223372036854775807 := hV.2.1
 generalize ks.take 4 = K1 at *
 generalize ks.drop 4 = K2 at *
 generalize vs.take 4 = X1 at *
 generalize vs.drop 4 = X2 at *
 have hcm0 := cell_below HB hcm
 clear hn hn' hn'' hK hV hC hs hmid hcm
 obtain ⟨⟨q0, q1, q2, q3⟩, -⟩ := id A1
 have i1 : (4 : Int) ≤ c := by omega
 have i2 : (4 : Int) ≤ c' := by omega
 have i3 : 4 < c := by omega
 have i4 : 4 < c' := by omega
 have i5 : ¬ c = 4 := by omega
 have i6 : ¬ c' = 4 := by omega
 go_enter Tryz.func87, Tryz.ntmps87
 go_wp2_with (go_at_call 81; rw [← hW]; refine (c1 _ HB).mono ?_; rintro y w1 ⟨rfl, hb⟩; replace HB := Below.tr HB hb; replace A1 := A1.below hb; replace A2 := A2.below hb; replace A4 := A4.below hb; replace hcm0 := cell_below hb hcm0; clear q0 q1 q2 q3; obtain ⟨⟨q0, q1, q2, q3⟩, -⟩ := id A1; clear hb)
 obtain ⟨V0, hV0⟩ : ∃ X, X = w1.drew := ⟨_, rfl⟩
 replace HB : Below w.heap.size w V0 := by rw [hV0]; exact HB.drew
 replace A1 : Box4 V0 w.heap.size (.bool true) (.slice (some ⟨b, o, none⟩) 9 c) (.slice (some ⟨b', o', none⟩) 9 c') (.slice a'' n'' c'') := by rw [hV0]; exact A1.drew
 replace A2 : Box4 V0 (w.heap.size + 1) (.bool false) (.slice none 0 0) (.slice none 0 0) (.slice none 0 0) := by rw [hV0]; exact A2.drew
 replace A4 : Box4 V0 (w.heap.size + 2) (.bool false) (.slice none 0 0) (.slice none 0 0) (.slice none 0 0) := by rw [hV0]; exact A4.drew
 clear q0 q1 q2 q3
 obtain ⟨⟨q0, q1, q2, q3⟩, -⟩ := id A1
 have HV0 : Hid (V0 = w1.drew) := hV0
 clear hV0
 refine (fun (key : Hid (∀ V g p q p' q', LaidS V0 V g p q p' q' 4 K1 X1 → (?propV0 : World → Nat → Option Addr → Nat → Option Addr → Nat → Prop) V g p q p' q')) => ?regV0) ?kontV0
 case regV0 =>
  refine wp_region_noPanic ?_
  refine wp_region_held_drew (S := fun V => V.cell? ⟨w.heap.size, 1, none⟩ = some (.slice (some ⟨b, o, none⟩) 9 c) ∧ V.cell? ⟨w.heap.size, 2, none⟩ = some (.slice (some ⟨b', o', none⟩) 9 c')) (by kernel_rfl) (by rw [← HV0.out]; exact ⟨q1, q2⟩) (fun hHeld => ?_)
  rw [← HV0.out] at hHeld ⊢
  refine take_at (i := 0) (v := ?_) rfl (by kernel_rfl) (by kernel_rfl) (by kernel_rfl) (fun _ _ _ h => h) (Or.inl ⟨by rfl, ?_⟩) (by assumption) ?_
  rotate_left 1
  ·
   (intro w hSw; (try dsimp only at hSw); go_simp; (try with_reducible rfl))
  try go_frame
  refine take_at (i := 1) (v := ?_) rfl (by kernel_rfl) (by kernel_rfl) (by kernel_rfl) (fun _ _ _ h => h) (Or.inl ⟨by rfl, ?_⟩) (by assumption) ?_
  rotate_left 1
  ·
   (intro w hSw; (try dsimp only at hSw); go_simp; (try with_reducible rfl))
  try go_frame
  refine take_at (i := 2) (v := ?_) rfl (by kernel_rfl) (by kernel_rfl) (by kernel_rfl) (fun _ _ _ h => h) (Or.inl ⟨by rfl, ?_⟩) (by assumption) ?_
  rotate_left 1
  ·
   (intro w hSw; (try dsimp only at hSw); go_simp; (try with_reducible rfl))
  try go_frame
  refine take_at (i := 3) (v := ?_) rfl (by kernel_rfl) (by kernel_rfl) (by kernel_rfl) (fun _ _ _ h => h) (Or.inl ⟨by rfl, ?_⟩) (by assumption) ?_
  rotate_left 1
  ·
   (intro w hSw; (try dsimp only at hSw); go_simp; (try with_reducible rfl))
  try go_frame
  refine take_at (i := 4) (v := ?_) rfl (by kernel_rfl) (by kernel_rfl) (by kernel_rfl) (fun _ _ _ h => h) (Or.inl ⟨by rfl, ?_⟩) (by assumption) ?_
  rotate_left 1
  ·
   (intro w hSw; (try dsimp only at hSw); go_simp; (try with_reducible rfl))
  try go_frame
  refine take_at (i := 5) (v := ?_) rfl (by kernel_rfl) (by kernel_rfl) (by kernel_rfl) (fun _ _ _ h => h) (Or.inl ⟨by rfl, ?_⟩) (by assumption) ?_
  rotate_left 1
  ·
   (intro w hSw; (try dsimp only at hSw); go_simp; (try with_reducible rfl))
  try go_frame
  refine wpAnyH_ready (rs := [6, 7]) (by kernel_rfl) (by simp) ?_
  refine cons_at (i := 6) rfl (fun K hK => ?callFirstV0) (cons_at (i := 7) rfl (fun K hK => ?allocFirstV0) AllReadyH.nil)
  case callFirstV0 =>
   go_simp
   go_at_call 105
   refine (cP _ HB).mono ?_
   rintro y u ⟨p, q, p', q', rfl, k1, k2, j1, j2, hb⟩
   have s1 := cell_below hb q1
   have s2 := cell_below hb q2
   refine hK.out _ _ ?_ (fun hHeld2 => ?_)
   ·
    exact ⟨s1, s2⟩
   clear hK K
   try go_frame
   refine wpAnyH_ready (rs := [7]) (by kernel_rfl) (by simp) ?_
   refine cons_at (i := 7) rfl (fun K hK => ?_) AllReadyH.nil
   go_simp
   refine hK.out _ _ ?_ (fun hHeld3 => ?_)
   ·
    exact ⟨cell_alloc s1 _, cell_alloc s2 _⟩
   clear hK K
   try go_frame
   refine wpAnyH_ready (rs := [8]) (by kernel_rfl) (by simp) ?_
   refine cons_at (i := 8) rfl (fun K hK => ?_) AllReadyH.nil
   go_simp
   have hA := (Below.refl u.heap.size u).alloc (Nat.le_refl _) (.cells #[.bool true, .slice p 4 q, .slice p' 4 q', .slice none 0 0] 76)
   have F : LaidS V0 (u.alloc (.cells #[.bool true, .slice p 4 q, .slice p' 4 q', .slice none 0 0] 76)) u.heap.size p q p' q' 4 K1 X1 := ⟨box4_new _ _ _ _ _ _ rfl, hb.size, hb.alloc hb.size _, k1.below hA, k2.below hA, j1, j2⟩
   refine hK.out _ _ ?_ (fun hHeld4 => ?_)
   ·
    exact ⟨cell_alloc s1 _, cell_alloc s2 _⟩
   clear hK K
   try go_frame
   refine wpAnyH_done (by kernel_rfl) ?_ _
   refine NoPanic.normal ?_
   clear hHeld hHeld2 hHeld3 hHeld4 hA
   generalize u.alloc (.cells #[.bool true, .slice p 4 q, .slice p' 4 q', .slice none 0 0] 76) = V at F ⊢
   generalize u.heap.size = g at F ⊢
   exact key.out V g p q p' q' F
  case allocFirstV0 =>
   go_simp
   refine hK.out _ _ ?_ (fun hHeld2 => ?_)
   ·
    exact ⟨cell_alloc q1 _, cell_alloc q2 _⟩
   clear hK K
   try go_frame
   refine wpAnyH_ready (rs := [6]) (by kernel_rfl) (by simp) ?_
   refine cons_at (i := 6) rfl (fun K hK => ?_) AllReadyH.nil
   go_simp
   go_at_call 105
   have hA := (Below.refl V0.heap.size V0).alloc (Nat.le_refl _) (.cells #[.bool false, .slice none 0 0, .slice none 0 0, .slice none 0 0] 76)
   have bZ := box4_new V0 (.bool false) (.slice none 0 0) (.slice none 0 0) (.slice none 0 0) 76 rfl
   refine (cP _ (Below.tr HB hA)).mono ?_
   rintro y u ⟨p, q, p', q', rfl, k1, k2, j1, j2, hb⟩
   have s1 := cell_below hb (cell_alloc q1 _)
   have s2 := cell_below hb (cell_alloc q2 _)
   replace bZ := bZ.below hb
   obtain ⟨⟨z0, z1, z2, z3⟩, y0, y1, y2, y3⟩ := id bZ
   refine hK.out _ _ ?_ (fun hHeld3 => ?_)
   ·
    exact ⟨s1, s2⟩
   clear hK K
   try go_frame
   refine wpAnyH_ready (rs := [8]) (by kernel_rfl) (by simp) ?_
   refine cons_at (i := 8) rfl (fun K hK => ?_) AllReadyH.nil
   go_simp
   have T4 := turns_put4 u V0.heap.size (.bool true) (.slice p 4 q) (.slice p' 4 q') (.slice none 0 0)
   have hlt : w.heap.size < V0.heap.size := A1.lt
   have F : LaidS V0 ((((u.setCell ⟨V0.heap.size, 0, none⟩ (.bool true)).setCell ⟨V0.heap.size, 1, none⟩ (.slice p 4 q)).setCell ⟨V0.heap.size, 2, none⟩ (.slice p' 4 q')).setCell ⟨V0.heap.size, 3, none⟩ (.slice none 0 0)) V0.heap.size p q p' q' 4 K1 X1 :=
    ⟨bZ.put _ _ _ _, Nat.le_refl _, Below.turns (hA.trans (hb.mono (by simp))) T4 (fun k hk => by omega), k1.turns T4 (fun x hx e => by have := j1 x hx; simp at this; omega), k2.turns T4 (fun x hx e => by have := j2 x hx; simp at this; omega), j1.mono (by simp), j2.mono (by simp)⟩
   refine hK.out _ _ ?_ (fun hHeld4 => ?_)
   ·
    exact ⟨T4.cell (p := ⟨w.heap.size, 1, none⟩) (by show ¬ w.heap.size = _; omega) s1, T4.cell (p := ⟨w.heap.size, 2, none⟩) (by show ¬ w.heap.size = _; omega) s2⟩
   clear hK K
   try go_frame
   refine wpAnyH_done (by kernel_rfl) ?_ _
   refine NoPanic.normal ?_
   exact key.out _ _ p q p' q' F
 case kontV0 =>
  intro V g0 p0 n0 p0' n0' hF
  obtain ⟨D6, hg, hb, k1, k2, j1, j2⟩ := hF
  have hlt1 : w.heap.size + 2 < V0.heap.size := A4.lt
  have hVs : V0.heap.size ≤ V.heap.size := hb.size
  replace A1 := A1.below hb
  replace A2 := A2.below hb
  replace A4 := A4.below hb
  replace HB := Below.tr HB hb
  replace hcm0 : V0.cell? ⟨b, o + 4, none⟩ = some (.string mid) := by rw [HV0.out]; exact hcm0
  replace hcm0 := cell_below hb hcm0
  have KK1 : Hid (IsS V p0 n0 K1) := k1
  have KK2 : Hid (IsS V p0' n0' X1) := k2
  have JJ1 : Hid (From V0.heap.size p0) := j1
  have JJ2 : Hid (From V0.heap.size p0') := j2
  clear q0 q1 q2 q3 k1 k2 j1 j2 hb HV0
  obtain ⟨⟨q0, q1, q2, q3⟩, -⟩ := id A1
  go_wp2
  obtain ⟨V5, hV5⟩ : ∃ X, X = V.drew := ⟨_, rfl⟩
  replace HB : Below w.heap.size w V5 := by rw [hV5]; exact HB.drew
  replace A1 : Box4 V5 w.heap.size (.bool true) (.slice (some ⟨b, o, none⟩) 9 c) (.slice (some ⟨b', o', none⟩) 9 c') (.slice a'' n'' c'') := by rw [hV5]; exact A1.drew
  replace A2 : Box4 V5 (w.heap.size + 1) (.bool false) (.slice none 0 0) (.slice none 0 0) (.slice none 0 0) := by rw [hV5]; exact A2.drew
  replace A4 : Box4 V5 (w.heap.size + 2) (.bool false) (.slice none 0 0) (.slice none 0 0) (.slice none 0 0) := by rw [hV5]; exact A4.drew
  clear q0 q1 q2 q3
  obtain ⟨⟨q0, q1, q2, q3⟩, -⟩ := id A1
  have HV5 : Hid (V5 = V.drew) := hV5
  clear hV5
  refine (fun (key : Hid (∀ V g p q p' q', LaidS V5 V g p q p' q' 5 K2 X2 → (?propV5 : World → Nat → Option Addr → Nat → Option Addr → Nat → Prop) V g p q p' q')) => ?regV5) ?kontV5
  case regV5 =>
   refine wp_region_noPanic ?_
   refine wp_region_held_drew (S := fun V => V.cell? ⟨w.heap.size, 1, none⟩ = some (.slice (some ⟨b, o, none⟩) 9 c) ∧ V.cell? ⟨w.heap.size, 2, none⟩ = some (.slice (some ⟨b', o', none⟩) 9 c')) (by kernel_rfl) (by rw [← HV5.out]; exact ⟨q1, q2⟩) (fun hHeld => ?_)
   rw [← HV5.out] at hHeld ⊢
   refine take_at (i := 0) (v := ?_) rfl (by kernel_rfl) (by kernel_rfl) (by kernel_rfl) (fun _ _ _ h => h) (Or.inl ⟨by rfl, ?_⟩) (by assumption) ?_
   rotate_left 1
   ·
    (intro w hSw; (try dsimp only at hSw); go_simp; (try with_reducible rfl))
   try go_frame
   refine take_at (i := 1) (v := ?_) rfl (by kernel_rfl) (by kernel_rfl) (by kernel_rfl) (fun _ _ _ h => h) (Or.inl ⟨by rfl, ?_⟩) (by assumption) ?_
   rotate_left 1
   ·
    (intro w hSw; (try dsimp only at hSw); go_simp; (try with_reducible rfl))
   try go_frame
   refine take_at (i := 2) (v := ?_) rfl (by kernel_rfl) (by kernel_rfl) (by kernel_rfl) (fun _ _ _ h => h) (Or.inl ⟨by rfl, ?_⟩) (by assumption) ?_
   rotate_left 1
   ·
    (intro w hSw; (try dsimp only at hSw); go_simp; (try with_reducible rfl))
   try go_frame
   refine take_at (i := 3) (v := ?_) rfl (by kernel_rfl) (by kernel_rfl) (by kernel_rfl) (fun _ _ _ h => h) (Or.inl ⟨by rfl, ?_⟩) (by assumption) ?_
   rotate_left 1
   ·
    (intro w hSw; (try dsimp only at hSw); go_simp; (try with_reducible rfl))
   try go_frame
   refine take_at (i := 4) (v := ?_) rfl (by kernel_rfl) (by kernel_rfl) (by kernel_rfl) (fun _ _ _ h => h) (Or.inl ⟨by rfl, ?_⟩) (by assumption) ?_
   rotate_left 1
   ·
    (intro w hSw; (try dsimp only at hSw); go_simp; (try with_reducible rfl))
   try go_frame
   refine take_at (i := 5) (v := ?_) rfl (by kernel_rfl) (by kernel_rfl) (by kernel_rfl) (fun _ _ _ h => h) (Or.inl ⟨by rfl, ?_⟩) (by assumption) ?_
   rotate_left 1
   ·
    (intro w hSw; (try dsimp only at hSw); go_simp; (try with_reducible rfl))
   try go_frame
   refine wpAnyH_ready (rs := [6, 7]) (by kernel_rfl) (by simp) ?_
   refine cons_at (i := 6) rfl (fun K hK => ?callFirstV5) (cons_at (i := 7) rfl (fun K hK => ?allocFirstV5) AllReadyH.nil)
   case callFirstV5 =>
    go_simp
    go_at_call 105
    refine (cQ _ HB).mono ?_
    rintro y u ⟨p, q, p', q', rfl, k1, k2, j1, j2, hb⟩
    have s1 := cell_below hb q1
    have s2 := cell_below hb q2
    refine hK.out _ _ ?_ (fun hHeld2 => ?_)
    ·
     exact ⟨s1, s2⟩
    clear hK K
    try go_frame
    refine wpAnyH_ready (rs := [7]) (by kernel_rfl) (by simp) ?_
    refine cons_at (i := 7) rfl (fun K hK => ?_) AllReadyH.nil
    go_simp
    refine hK.out _ _ ?_ (fun hHeld3 => ?_)
    ·
     exact ⟨cell_alloc s1 _, cell_alloc s2 _⟩
    clear hK K
    try go_frame
    refine wpAnyH_ready (rs := [8]) (by kernel_rfl) (by simp) ?_
    refine cons_at (i := 8) rfl (fun K hK => ?_) AllReadyH.nil
    go_simp
    have hA := (Below.refl u.heap.size u).alloc (Nat.le_refl _) (.cells #[.bool true, .slice p 5 q, .slice p' 5 q', .slice none 0 0] 76)
    have F : LaidS V5 (u.alloc (.cells #[.bool true, .slice p 5 q, .slice p' 5 q', .slice none 0 0] 76)) u.heap.size p q p' q' 5 K2 X2 := ⟨box4_new _ _ _ _ _ _ rfl, hb.size, hb.alloc hb.size _, k1.below hA, k2.below hA, j1, j2⟩
    refine hK.out _ _ ?_ (fun hHeld4 => ?_)
    ·
     exact ⟨cell_alloc s1 _, cell_alloc s2 _⟩
    clear hK K
    try go_frame
    refine wpAnyH_done (by kernel_rfl) ?_ _
    refine NoPanic.normal ?_
    clear hHeld hHeld2 hHeld3 hHeld4 hA
    generalize u.alloc (.cells #[.bool true, .slice p 5 q, .slice p' 5 q', .slice none 0 0] 76) = V at F ⊢
    generalize u.heap.size = g at F ⊢
    exact key.out V g p q p' q' F
   case allocFirstV5 =>
    go_simp
    refine hK.out _ _ ?_ (fun hHeld2 => ?_)
    ·
     exact ⟨cell_alloc q1 _, cell_alloc q2 _⟩
    clear hK K
    try go_frame
    refine wpAnyH_ready (rs := [6]) (by kernel_rfl) (by simp) ?_
    refine cons_at (i := 6) rfl (fun K hK => ?_) AllReadyH.nil
    go_simp
    go_at_call 105
    have hA := (Below.refl V5.heap.size V5).alloc (Nat.le_refl _) (.cells #[.bool false, .slice none 0 0, .slice none 0 0, .slice none 0 0] 76)
    have bZ := box4_new V5 (.bool false) (.slice none 0 0) (.slice none 0 0) (.slice none 0 0) 76 rfl
    refine (cQ _ (Below.tr HB hA)).mono ?_
    rintro y u ⟨p, q, p', q', rfl, k1, k2, j1, j2, hb⟩
    have s1 := cell_below hb (cell_alloc q1 _)
    have s2 := cell_below hb (cell_alloc q2 _)
    replace bZ := bZ.below hb
    obtain ⟨⟨z0, z1, z2, z3⟩, y0, y1, y2, y3⟩ := id bZ
    refine hK.out _ _ ?_ (fun hHeld3 => ?_)
    ·
     exact ⟨s1, s2⟩
    clear hK K
    try go_frame
    refine wpAnyH_ready (rs := [8]) (by kernel_rfl) (by simp) ?_
    refine cons_at (i := 8) rfl (fun K hK => ?_) AllReadyH.nil
    go_simp
    have T4 := turns_put4 u V5.heap.size (.bool true) (.slice p 5 q) (.slice p' 5 q') (.slice none 0 0)
    have hlt : w.heap.size < V5.heap.size := A1.lt
    have F : LaidS V5 ((((u.setCell ⟨V5.heap.size, 0, none⟩ (.bool true)).setCell ⟨V5.heap.size, 1, none⟩ (.slice p 5 q)).setCell ⟨V5.heap.size, 2, none⟩ (.slice p' 5 q')).setCell ⟨V5.heap.size, 3, none⟩ (.slice none 0 0)) V5.heap.size p q p' q' 5 K2 X2 :=
     ⟨bZ.put _ _ _ _, Nat.le_refl _, Below.turns (hA.trans (hb.mono (by simp))) T4 (fun k hk => by omega), k1.turns T4 (fun x hx e => by have := j1 x hx; simp at this; omega), k2.turns T4 (fun x hx e => by have := j2 x hx; simp at this; omega), j1.mono (by simp), j2.mono (by simp)⟩
    refine hK.out _ _ ?_ (fun hHeld4 => ?_)
    ·
     exact ⟨T4.cell (p := ⟨w.heap.size, 1, none⟩) (by show ¬ w.heap.size = _; omega) s1, T4.cell (p := ⟨w.heap.size, 2, none⟩) (by show ¬ w.heap.size = _; omega) s2⟩
    clear hK K
    try go_frame
    refine wpAnyH_done (by kernel_rfl) ?_ _
    refine NoPanic.normal ?_
    exact key.out _ _ p q p' q' F
  case kontV5 =>
   intro V6 g1 p1 n1 p1' n1' hF
   obtain ⟨D7, hg1, hb, k1, k2, j1, j2⟩ := hF
   replace A1 := A1.below hb
   replace A2 := A2.below hb
   replace A4 := A4.below hb
   replace D6 : Box4 V5 g0 (.bool true) (.slice p0 4 n0) (.slice p0' 4 n0') (.slice none 0 0) := by rw [HV5.out]; exact D6.drew
   replace D6 := D6.below hb
   replace HB := Below.tr HB hb
   replace hcm0 : V5.cell? ⟨b, o + 4, none⟩ = some (.string mid) := by rw [HV5.out]; exact hcm0
   replace hcm0 := cell_below hb hcm0
   have hV5s : V.heap.size ≤ V5.heap.size := by rw [HV5.out]; exact Nat.le_refl _
   replace KK1 : Hid (IsS V6 p0 n0 K1) := IsS.below (w := V5) (by rw [HV5.out]; exact KK1.out) hb
   replace KK2 : Hid (IsS V6 p0' n0' X1) := IsS.below (w := V5) (by rw [HV5.out]; exact KK2.out) hb
   have KK3 : Hid (IsS V6 p1 n1 K2) := k1
   have KK4 : Hid (IsS V6 p1' n1' X2) := k2
   have JJ3 : Hid (From V5.heap.size p1) := j1
   have JJ4 : Hid (From V5.heap.size p1') := j2
   clear q0 q1 q2 q3 k1 k2 j1 j2 hb HV5
   obtain ⟨V7, hV7⟩ : ∃ X, X = V6.drew := ⟨_, rfl⟩
   replace A1 : Box4 V7 w.heap.size (.bool true) (.slice (some ⟨b, o, none⟩) 9 c) (.slice (some ⟨b', o', none⟩) 9 c') (.slice a'' n'' c'') := by rw [hV7]; exact A1.drew
   replace A2 : Box4 V7 (w.heap.size + 1) (.bool false) (.slice none 0 0) (.slice none 0 0) (.slice none 0 0) := by rw [hV7]; exact A2.drew
   replace A4 : Box4 V7 (w.heap.size + 2) (.bool false) (.slice none 0 0) (.slice none 0 0) (.slice none 0 0) := by rw [hV7]; exact A4.drew
   replace D6 : Box4 V7 g0 (.bool true) (.slice p0 4 n0) (.slice p0' 4 n0') (.slice none 0 0) := by rw [hV7]; exact D6.drew
   replace D7 : Box4 V7 g1 (.bool true) (.slice p1 5 n1) (.slice p1' 5 n1') (.slice none 0 0) := by rw [hV7]; exact D7.drew
   replace hcm0 : V7.cell? ⟨b, o + 4, none⟩ = some (.string mid) := by rw [hV7]; exact hcm0
   replace HB : Below w.heap.size w V7 := by rw [hV7]; exact HB.drew
   replace KK1 : Hid (IsS V7 p0 n0 K1) := by rw [hV7]; exact KK1
   replace KK2 : Hid (IsS V7 p0' n0' X1) := by rw [hV7]; exact KK2
   replace KK3 : Hid (IsS V7 p1 n1 K2) := by rw [hV7]; exact KK3
   replace KK4 : Hid (IsS V7 p1' n1' X2) := by rw [hV7]; exact KK4
   obtain ⟨V8, hV8⟩ : ∃ X, X = ((((V7.setCell ⟨w.heap.size + 1, 0, none⟩ (.bool true)).setCell ⟨w.heap.size + 1, 1, none⟩ (.slice p0 4 n0)).setCell ⟨w.heap.size + 1, 2, none⟩ (.slice p0' 4 n0')).setCell ⟨w.heap.size + 1, 3, none⟩ (.slice none 0 0)) := ⟨_, rfl⟩
   obtain ⟨V9, hV9⟩ : ∃ X, X = ((((V8.setCell ⟨w.heap.size + 2, 0, none⟩ (.bool true)).setCell ⟨w.heap.size + 2, 1, none⟩ (.slice p1 5 n1)).setCell ⟨w.heap.size + 2, 2, none⟩ (.slice p1' 5 n1')).setCell ⟨w.heap.size + 2, 3, none⟩ (.slice none 0 0)) := ⟨_, rfl⟩
   have T8 : Turns (fun k => k = w.heap.size + 1) V7 V8 := by rw [hV8]; exact turns_put4 V7 _ _ _ _ _
   have T9 : Turns (fun k => k = w.heap.size + 2) V8 V9 := by rw [hV9]; exact turns_put4 V8 _ _ _ _ _
   have A18 := A1.turns T8 (by omega)
   have A28 : Box4 V8 (w.heap.size + 1) (.bool true) (.slice p0 4 n0) (.slice p0' 4 n0') (.slice none 0 0) := by rw [hV8]; exact A2.put _ _ _ _
   have A48 := A4.turns T8 (by omega)
   have D78 := D7.turns T8 (by omega)
   have hcm8 : V8.cell? ⟨b, o + 4, none⟩ = some (.string mid) := T8.cell (p := ⟨b, o + 4, none⟩) (by show ¬ b = w.heap.size + 1; omega) hcm0
   have A29 := A28.turns T9 (by omega)
   have A49 : Box4 V9 (w.heap.size + 2) (.bool true) (.slice p1 5 n1) (.slice p1' 5 n1') (.slice none 0 0) := by rw [hV9]; exact A48.put _ _ _ _
   have HB9 : Hid (Below w.heap.size w V9) := Below.turns (Below.turns HB T8 (fun k hk => by omega)) T9 (fun k hk => by omega)
   replace KK1 : Hid (IsS V9 p0 n0 K1) := (KK1.out.turns T8 (fun x hx e => by have := JJ1.out x hx; omega)).turns T9 (fun x hx e => by have := JJ1.out x hx; omega)
   replace KK2 : Hid (IsS V9 p0' n0' X1) := (KK2.out.turns T8 (fun x hx e => by have := JJ2.out x hx; omega)).turns T9 (fun x hx e => by have := JJ2.out x hx; omega)
   replace KK3 : Hid (IsS V9 p1 n1 K2) := (KK3.out.turns T8 (fun x hx e => by have := JJ3.out x hx; omega)).turns T9 (fun x hx e => by have := JJ3.out x hx; omega)
   replace KK4 : Hid (IsS V9 p1' n1' X2) := (KK4.out.turns T8 (fun x hx e => by have := JJ4.out x hx; omega)).turns T9 (fun x hx e => by have := JJ4.out x hx; omega)
   have hst1 : Hid ((((V7.setCell ⟨w.heap.size + 1, 0, none⟩ (.bool true)).setCell ⟨w.heap.size + 1, 1, none⟩ (.slice p0 4 n0)).setCell ⟨w.heap.size + 1, 2, none⟩ (.slice p0' 4 n0')).setCell ⟨w.heap.size + 1, 3, none⟩ (.slice none 0 0) = V8) := hV8.symm
   have hst3 : Hid ((((V8.setCell ⟨w.heap.size + 1 + 1, 0, none⟩ (.bool true)).setCell ⟨w.heap.size + 1 + 1, 1, none⟩ (.slice p1 5 n1)).setCell ⟨w.heap.size + 1 + 1, 2, none⟩ (.slice p1' 5 n1')).setCell ⟨w.heap.size + 1 + 1, 3, none⟩ (.slice none 0 0) = V9) := hV9.symm
   have HV7 : Hid (V7 = V6.drew) := hV7
   obtain ⟨⟨q0, q1, q2, q3⟩, -⟩ := A1
   obtain ⟨⟨q08, q18, q28, q38⟩, -⟩ := A18
   obtain ⟨⟨d0, d1, d2, d3⟩, -⟩ := D6
   obtain ⟨⟨e0, e1, e2, e3⟩, -⟩ := D7
   obtain ⟨⟨e08, e18, e28, e38⟩, -⟩ := D78
   obtain ⟨⟨r0, r1, r2, r3⟩, u0, u1, u2, u3⟩ := A2
   obtain ⟨⟨t0, t1, t2, t3⟩, v0, v1, v2, v3⟩ := A48
   clear hV7 hV8 hV9 T8 T9 A28 A4 HB
   go_wp2
   refine region_worlds (by kernel_rfl) [6, 7, 8] (cutV (.agg #[.bool true, .slice p0 4 n0, .slice p0' 4 n0', .slice none 0 0]) (.slice (some ⟨b, o, none⟩) 9 c) (.agg #[.bool true, .slice p1 5 n1, .slice p1' 5 n1', .slice none 0 0]) w.heap.size b o mid) (worlds4 V7 V8 V8 V9) (by kernel_rfl) (by kernel_rfl) HV7.out.symm ?step 10 rfl ?done
   case step =>
    intro i o ho kk a2 hkk hmay hdf hsz hdep hsame
    match i, ho with
    | 0, ho =>
     cases ho
     have h6 := (hsame 6 rfl)
     match kk, hkk, hmay with
     | 0, _, hq => first | (cases hq; done) | (exact val_op rfl (wanted_free rfl) (by clear hdep hsame hsz hdf; (try simp only [cutV, worlds4]); go_simp) rfl rfl)
     | 1, _, hq => first | (cases hq; done) | (exact val_op rfl (wanted_free rfl) (by clear hdep hsame hsz hdf; (try simp only [cutV, worlds4]); go_simp) rfl rfl)
     | 2, _, hq => first | (cases hq; done) | (exact val_op rfl (wanted_free rfl) (by clear hdep hsame hsz hdf; (try simp only [cutV, worlds4]); go_simp) rfl rfl)
     | 3, _, hq => first | (cases hq; done) | (exact val_op rfl (wanted_free rfl) (by clear hdep hsame hsz hdf; (try simp only [cutV, worlds4]); go_simp) rfl rfl)
     | kk + 4, hkk, _ => simp at hkk
    | 1, ho =>
     cases ho
     have h1 := (hsame 1 rfl)
     exact val_op rfl (wanted_free rfl) (by clear hdep hsame hsz hdf; (try simp only [cutV, worlds4]); go_simp) rfl rfl
    | 2, ho =>
     cases ho
     have h38 := (hdep 1 _ 38 rfl rfl rfl)
     simp only [cutV] at h38
     match kk, hkk, hmay with
     | 0, _, hq => first | (cases hq; done) | (exact val_op rfl (wanted_free rfl) (by clear hdep hsame hsz hdf; (try simp only [cutV, worlds4]); go_simp) rfl rfl)
     | 1, _, hq => first | (cases hq; done) | (exact val_op rfl (wanted_free rfl) (by clear hdep hsame hsz hdf; (try simp only [cutV, worlds4]); go_simp) rfl rfl)
     | 2, _, hq => first | (cases hq; done) | (exact val_op rfl (wanted_free rfl) (by clear hdep hsame hsz hdf; (try simp only [cutV, worlds4]); go_simp) rfl rfl)
     | 3, _, hq => first | (cases hq; done) | (exact val_op rfl (wanted_free rfl) (by clear hdep hsame hsz hdf; (try simp only [cutV, worlds4]); go_simp) rfl rfl)
     | kk + 4, hkk, _ => simp at hkk
    | 3, ho =>
     cases ho
     have h39 := (hdep 2 _ 39 rfl rfl rfl)
     simp only [cutV] at h39
     exact val_op rfl (wanted_free rfl) (by clear hdep hsame hsz hdf; (try simp only [cutV, worlds4]); go_simp) rfl rfl
    | 4, ho =>
     cases ho
     have h40 := (hdep 3 _ 40 rfl rfl rfl)
     simp only [cutV] at h40
     match kk, hkk, hmay with
     | 0, _, hq => first | (cases hq; done) | (exact val_op rfl (wanted_free rfl) (by clear hdep hsame hsz hdf; (try simp only [cutV, worlds4]); go_simp) rfl rfl)
     | 1, _, hq => first | (cases hq; done) | (exact val_op rfl (wanted_free rfl) (by clear hdep hsame hsz hdf; (try simp only [cutV, worlds4]); go_simp) rfl rfl)
     | 2, _, hq => first | (cases hq; done) | (exact val_op rfl (wanted_free rfl) (by clear hdep hsame hsz hdf; (try simp only [cutV, worlds4]); go_simp) rfl rfl)
     | 3, _, hq => first | (cases hq; done) | (exact val_op rfl (wanted_free rfl) (by clear hdep hsame hsz hdf; (try simp only [cutV, worlds4]); go_simp) rfl rfl)
     | kk + 4, hkk, _ => simp at hkk
    | 5, ho =>
     cases ho
     have h7 := (hsame 7 rfl)
     match kk, hkk, hmay with
     | 0, _, hq => first | (cases hq; done) | (exact val_op rfl (wanted_free rfl) (by clear hdep hsame hsz hdf; (try simp only [cutV, worlds4]); go_simp) rfl rfl)
     | 1, _, hq => first | (cases hq; done) | (exact val_op rfl (wanted_free rfl) (by clear hdep hsame hsz hdf; (try simp only [cutV, worlds4]); go_simp) rfl rfl)
     | 2, _, hq => first | (cases hq; done) | (exact val_op rfl (wanted_free rfl) (by clear hdep hsame hsz hdf; (try simp only [cutV, worlds4]); go_simp) rfl rfl)
     | 3, _, hq => first | (cases hq; done) | (exact val_op rfl (wanted_free rfl) (by clear hdep hsame hsz hdf; (try simp only [cutV, worlds4]); go_simp) rfl rfl)
     | kk + 4, hkk, _ => simp at hkk
    | 6, ho =>
     cases ho
     have h2 := (hsame 2 rfl)
     have h37 := (hdep 0 _ 37 rfl rfl rfl)
     simp only [cutV] at h37
     match kk, hkk, hmay with
     | 0, _, _ => exact val_skip rfl (wanted_free rfl) rfl (by clear hdep hsame hsz hdf; simp only [worlds4]; go_simp; try exact hst1.out) rfl
     | 1, _, hq => cases hq
     | 2, _, hq => cases hq
     | 3, _, hq => cases hq
     | kk + 4, hkk, _ => simp at hkk
    | 7, ho =>
     cases ho
     have h41 := (hdep 4 _ 41 rfl rfl rfl)
     simp only [cutV] at h41
     match kk, hkk, hmay with
     | 0, _, hq => cases hq
     | 1, _, _ => exact val_op rfl (wanted_free rfl) (by clear hdep hsame hsz hdf; (try simp only [cutV, worlds4]); go_simp) rfl rfl
     | 2, _, hq => cases hq
     | 3, _, hq => cases hq
     | kk + 4, hkk, _ => simp at hkk
    | 8, ho =>
     cases ho
     have h4 := (hsame 4 rfl)
     have h42 := (hdep 5 _ 42 rfl rfl rfl)
     simp only [cutV] at h42
     match kk, hkk, hmay with
     | 0, _, hq => cases hq
     | 1, _, hq => cases hq
     | 2, _, _ => exact val_skip rfl (wanted_free rfl) rfl (by clear hdep hsame hsz hdf; simp only [worlds4]; go_simp; try exact hst3.out) rfl
     | 3, _, hq => cases hq
     | kk + 4, hkk, _ => simp at hkk
    | 9, ho =>
     cases ho
     exact val_op rfl (wanted_free rfl) (by clear hdep hsame hsz hdf; (try simp only [cutV, worlds4]); go_simp) rfl rfl
    | kk + 10, ho => simp at ho
   case done =>
    simp [filledN, cutV, worlds4]
    obtain ⟨⟨x0, x1, x2, x3⟩, -⟩ := A29
    obtain ⟨⟨y0, y1, y2, y3⟩, -⟩ := A49
    go_wp2
    refine bodyPost_ret (v := .tuple #[.agg #[.bool true, .slice p0 4 n0, .slice p0' 4 n0', .slice none 0 0], .string mid, .agg #[.bool true, .slice p1 5 n1, .slice p1' 5 n1', .slice none 0 0], .int .i64 0]) (by simp [results, Tryz.results87, go_sem, x0, x1, x2, x3, y0, y1, y2, y3]) rfl ⟨p0, n0, p0', n0', p1, n1, p1', n1', rfl, KK1.out, KK2.out, KK3.out, KK4.out, ⟨JJ1.out.mono (by omega), JJ2.out.mono (by omega), JJ3.out.mono (by omega), JJ4.out.mono (by omega)⟩, HB9.out⟩
def LaidI (V0 V : World) (g : Nat) (p : Option Addr) (q : Nat) (p' : Option Addr) (q' : Nat) (xs : List ByteArray) (ys : List Int) : Prop :=
 Box4 V g (.bool false) (.slice p 4 q) (.slice none 0 0) (.slice p' 5 q') ∧ V0.heap.size ≤ g ∧ Below V0.heap.size V0 V ∧ IsS V p q xs ∧ IsI V p' q' ys ∧ From V0.heap.size p ∧ From V0.heap.size p'
set_option maxRecDepth 20000 in
set_option maxHeartbeats 1000000 in
theorem cutInner_any (b o c b' o' c' : Nat) (a'' : Option Addr) (c'' n'' : Nat) (ks : List ByteArray) (cs : List Int) (w : World)
  (hn : 9 = ks.length) (hn'' : n'' = ([] : List ByteArray).length) (hn' : 10 = cs.length) (hK : IsS w (some ⟨b, o, none⟩) c ks) (hC : IsS w a'' c'' []) (hV : IsI w (some ⟨b', o', none⟩) c' cs) (hs : standsN false ks [] cs = true) {mid : ByteArray} (hmid : ks[4]? = some mid) :
  Calls Tryz.prog 87 #[.agg #[.bool false, .slice (some ⟨b, o, none⟩) 9 c, .slice a'' n'' c'', .slice (some ⟨b', o', none⟩) 10 c']] w fun x w' => ∃ p q p' q' r s r' s', x = .returned (.tuple #[.agg #[.bool false, .slice p 4 q, .slice none 0 0, .slice p' 5 q'], .string mid, .agg #[.bool false, .slice r 4 s, .slice none 0 0, .slice r' 5 s'], .int .i64 0]) ∧
   IsS w' p q (ks.take 4) ∧ IsI w' p' q' (cs.take 5) ∧ IsS w' r s (ks.drop 5) ∧ IsI w' r' s' (cs.drop 5) ∧ (From w.heap.size p ∧ From w.heap.size p' ∧ From w.heap.size r ∧ From w.heap.size r') ∧ Below w.heap.size w w' := by
 obtain ⟨W, hW⟩ : ∃ W, W = ((w.alloc (.cells #[.bool false, .slice (some ⟨b, o, none⟩) 9 c, .slice a'' n'' c'', .slice (some ⟨b', o', none⟩) 10 c'] 76)).alloc (.cells #[.bool false, .slice none 0 0, .slice none 0 0, .slice none 0 0] 76)).alloc (.cells #[.bool false, .slice none 0 0, .slice none 0 0, .slice none 0 0] 76) := ⟨_, rfl⟩
 have A1 : Box4 W w.heap.size (.bool false) (.slice (some ⟨b, o, none⟩) 9 c) (.slice a'' n'' c'') (.slice (some ⟨b', o', none⟩) 10 c') := by rw [hW]; exact ((box4_new _ _ _ _ _ _ rfl).alloc _).alloc _
 have A2 : Box4 W (w.heap.size + 1) (.bool false) (.slice none 0 0) (.slice none 0 0) (.slice none 0 0) := by rw [hW]; exact (box4_new _ _ _ _ _ _ (by simp)).alloc _
 have A4 : Box4 W (w.heap.size + 2) (.bool false) (.slice none 0 0) (.slice none 0 0) (.slice none 0 0) := by rw [hW]; exact box4_new _ _ _ _ _ _ (by simp)
 have HB : Below w.heap.size w W := by rw [hW]; exact (((Below.refl _ _).alloc (Nat.le_refl _) _).alloc (by simp) _).alloc (by simp; omega) _
 have c1 : ∀ V, Below w.heap.size w V → Calls Tryz.prog 81 #[.agg #[.bool false, .slice (some ⟨b, o, none⟩) 9 c, .slice a'' n'' c'', .slice (some ⟨b', o', none⟩) 10 c']] V fun e w' => e = .returned (.bool true) ∧ Below V.heap.size V w' := fun V h => by have := mayStand_any false (some ⟨b, o, none⟩) a'' (some ⟨b', o', none⟩) c c'' c' 9 n'' 10 ks [] cs V hn hn'' hn' (hK.below h) (hC.below h) (hV.below h); rw [hs] at this; exact this
 have cP : ∀ V, Below w.heap.size w V → Calls Tryz.prog 106 #[.slice (some ⟨b, o, none⟩) 4 c, .slice (some ⟨b', o', none⟩) 5 c'] V fun e w' => ∃ p q p' q', e = .returned (.agg #[.bool false, .slice p 4 q, .slice none 0 0, .slice p' 5 q']) ∧ IsS w' p q (ks.take 4) ∧ IsI w' p' q' (cs.take 5) ∧ From V.heap.size p ∧ From V.heap.size p' ∧ Below V.heap.size V w' := fun V h => innerPart_any _ _ c c' 4 5 (ks.take 4) (cs.take 5) V (by rw [List.length_take]; omega) (by rw [List.length_take]; omega) ((hK.take 4).below h) ((hV.take 5).below h) (by omega) (by omega)
 have cQ : ∀ V, Below w.heap.size w V → Calls Tryz.prog 106 #[.slice (some ⟨b, o + 5, none⟩) 4 (c - 5), .slice (some ⟨b', o' + 5, none⟩) 5 (c' - 5)] V fun e w' => ∃ p q p' q', e = .returned (.agg #[.bool false, .slice p 4 q, .slice none 0 0, .slice p' 5 q']) ∧ IsS w' p q (ks.drop 5) ∧ IsI w' p' q' (cs.drop 5) ∧ From V.heap.size p ∧ From V.heap.size p' ∧ Below V.heap.size V w' := fun V h => innerPart_any _ _ _ _ 4 5 (ks.drop 5) (cs.drop 5) V (by rw [List.length_drop]; omega) (by rw [List.length_drop]; omega) ((isS_drop hK 5 (by omega)).below h) ((isI_drop hV 5 (by omega)).below h) (by omega) (by omega)
 obtain ⟨_, _, hbo, hbl, hcm, hms⟩ := hK.2.2 4 mid hmid
 cases hbo
 have hc9 : 9 ≤ c := by rw [hn]; exact hK.1
 have hc9' : 10 ≤ c' := by rw [hn']; exact hV.1
 have hcM : c ≤ 9223372036854775807 := hK.2.1
 have hcM' : c' ≤ 9223372036854775807 := hV.2.1
 generalize ks.take 4 = K1 at *
 generalize ks.drop 5 = K2 at *
 generalize cs.take 5 = X1 at *
 generalize cs.drop 5 = X2 at *
 have hcm0 := cell_below HB hcm
 clear hn hn' hn'' hK hV hC hs hmid hcm
 obtain ⟨⟨q0, q1, q2, q3⟩, -⟩ := id A1
 have i1 : (4 : Int) ≤ c := by omega
 have i2 : (5 : Int) ≤ c' := by omega
 have i1' : (5 : Int) ≤ c := by omega
 have i3 : 5 < c := by omega
 have i4 : 5 < c' := by omega
 have i5 : ¬ c = 5 := by omega
 have i6 : ¬ c' = 5 := by omega
 have i7 : 4 < c := by omega
 go_enter Tryz.func87, Tryz.ntmps87
 go_wp2_with (go_at_call 81; rw [← hW]; refine (c1 _ HB).mono ?_; rintro y w1 ⟨rfl, hb⟩; replace HB := Below.tr HB hb; replace A1 := A1.below hb; replace A2 := A2.below hb; replace A4 := A4.below hb; replace hcm0 := cell_below hb hcm0; clear q0 q1 q2 q3; obtain ⟨⟨q0, q1, q2, q3⟩, -⟩ := id A1; clear hb)
 obtain ⟨V0, hV0⟩ : ∃ X, X = w1.drew := ⟨_, rfl⟩
 replace HB : Below w.heap.size w V0 := by rw [hV0]; exact HB.drew
 replace A1 : Box4 V0 w.heap.size (.bool false) (.slice (some ⟨b, o, none⟩) 9 c) (.slice a'' n'' c'') (.slice (some ⟨b', o', none⟩) 10 c') := by rw [hV0]; exact A1.drew
 replace A2 : Box4 V0 (w.heap.size + 1) (.bool false) (.slice none 0 0) (.slice none 0 0) (.slice none 0 0) := by rw [hV0]; exact A2.drew
 replace A4 : Box4 V0 (w.heap.size + 2) (.bool false) (.slice none 0 0) (.slice none 0 0) (.slice none 0 0) := by rw [hV0]; exact A4.drew
 clear q0 q1 q2 q3
 obtain ⟨⟨q0, q1, q2, q3⟩, -⟩ := id A1
 have HV0 : Hid (V0 = w1.drew) := hV0
 clear hV0
 refine (fun (key : Hid (∀ V g p q p' q', LaidI V0 V g p q p' q' K1 X1 → (?propV0 : World → Nat → Option Addr → Nat → Option Addr → Nat → Prop) V g p q p' q')) => ?regV0) ?kontV0
 case regV0 =>
  refine wp_region_noPanic ?_
  refine wp_region_held_drew (S := fun V => V.cell? ⟨w.heap.size, 1, none⟩ = some (.slice (some ⟨b, o, none⟩) 9 c) ∧ V.cell? ⟨w.heap.size, 3, none⟩ = some (.slice (some ⟨b', o', none⟩) 10 c')) (by kernel_rfl) (by rw [← HV0.out]; exact ⟨q1, q3⟩) (fun hHeld => ?_)
  rw [← HV0.out] at hHeld ⊢
  refine take_at (i := 0) (v := ?_) rfl (by kernel_rfl) (by kernel_rfl) (by kernel_rfl) (fun _ _ _ h => h) (Or.inl ⟨by rfl, ?_⟩) (by assumption) ?_
  rotate_left 1
  ·
   (intro w hSw; (try dsimp only at hSw); go_simp; (try with_reducible rfl))
  try go_frame
  refine take_at (i := 1) (v := ?_) rfl (by kernel_rfl) (by kernel_rfl) (by kernel_rfl) (fun _ _ _ h => h) (Or.inl ⟨by rfl, ?_⟩) (by assumption) ?_
  rotate_left 1
  ·
   (intro w hSw; (try dsimp only at hSw); go_simp; (try with_reducible rfl))
  try go_frame
  refine take_at (i := 2) (v := ?_) rfl (by kernel_rfl) (by kernel_rfl) (by kernel_rfl) (fun _ _ _ h => h) (Or.inl ⟨by rfl, ?_⟩) (by assumption) ?_
  rotate_left 1
  ·
   (intro w hSw; (try dsimp only at hSw); go_simp; (try with_reducible rfl))
  try go_frame
  refine take_at (i := 3) (v := ?_) rfl (by kernel_rfl) (by kernel_rfl) (by kernel_rfl) (fun _ _ _ h => h) (Or.inl ⟨by rfl, ?_⟩) (by assumption) ?_
  rotate_left 1
  ·
   (intro w hSw; (try dsimp only at hSw); go_simp; (try with_reducible rfl))
  try go_frame
  refine take_at (i := 4) (v := ?_) rfl (by kernel_rfl) (by kernel_rfl) (by kernel_rfl) (fun _ _ _ h => h) (Or.inl ⟨by rfl, ?_⟩) (by assumption) ?_
  rotate_left 1
  ·
   (intro w hSw; (try dsimp only at hSw); go_simp; (try with_reducible rfl))
  try go_frame
  refine take_at (i := 5) (v := ?_) rfl (by kernel_rfl) (by kernel_rfl) (by kernel_rfl) (fun _ _ _ h => h) (Or.inl ⟨by rfl, ?_⟩) (by assumption) ?_
  rotate_left 1
  ·
   (intro w hSw; (try dsimp only at hSw); go_simp; (try with_reducible rfl))
  try go_frame
  refine wpAnyH_ready (rs := [6, 7]) (by kernel_rfl) (by simp) ?_
  refine cons_at (i := 6) rfl (fun K hK => ?callFirstV0) (cons_at (i := 7) rfl (fun K hK => ?allocFirstV0) AllReadyH.nil)
  case callFirstV0 =>
   go_simp
   go_at_call 106
   refine (cP _ HB).mono ?_
   rintro y u ⟨p, q, p', q', rfl, k1, k2, j1, j2, hb⟩
   have s1 := cell_below hb q1
   have s2 := cell_below hb q3
   refine hK.out _ _ ?_ (fun hHeld2 => ?_)
   ·
    exact ⟨s1, s2⟩
   clear hK K
   try go_frame
   refine wpAnyH_ready (rs := [7]) (by kernel_rfl) (by simp) ?_
   refine cons_at (i := 7) rfl (fun K hK => ?_) AllReadyH.nil
   go_simp
   refine hK.out _ _ ?_ (fun hHeld3 => ?_)
   ·
    exact ⟨cell_alloc s1 _, cell_alloc s2 _⟩
   clear hK K
   try go_frame
   refine wpAnyH_ready (rs := [8]) (by kernel_rfl) (by simp) ?_
   refine cons_at (i := 8) rfl (fun K hK => ?_) AllReadyH.nil
   go_simp
   have hA := (Below.refl u.heap.size u).alloc (Nat.le_refl _) (.cells #[.bool false, .slice p 4 q, .slice none 0 0, .slice p' 5 q'] 76)
   have F : LaidI V0 (u.alloc (.cells #[.bool false, .slice p 4 q, .slice none 0 0, .slice p' 5 q'] 76)) u.heap.size p q p' q' K1 X1 := ⟨box4_new _ _ _ _ _ _ rfl, hb.size, hb.alloc hb.size _, k1.below hA, k2.below hA, j1, j2⟩
   refine hK.out _ _ ?_ (fun hHeld4 => ?_)
   ·
    exact ⟨cell_alloc s1 _, cell_alloc s2 _⟩
   clear hK K
   try go_frame
   refine wpAnyH_done (by kernel_rfl) ?_ _
   refine NoPanic.normal ?_
   clear hHeld hHeld2 hHeld3 hHeld4 hA
   generalize u.alloc (.cells #[.bool false, .slice p 4 q, .slice none 0 0, .slice p' 5 q'] 76) = V at F ⊢
   generalize u.heap.size = g at F ⊢
   exact key.out V g p q p' q' F
  case allocFirstV0 =>
   go_simp
   refine hK.out _ _ ?_ (fun hHeld2 => ?_)
   ·
    exact ⟨cell_alloc q1 _, cell_alloc q3 _⟩
   clear hK K
   try go_frame
   refine wpAnyH_ready (rs := [6]) (by kernel_rfl) (by simp) ?_
   refine cons_at (i := 6) rfl (fun K hK => ?_) AllReadyH.nil
   go_simp
   go_at_call 106
   have hA := (Below.refl V0.heap.size V0).alloc (Nat.le_refl _) (.cells #[.bool false, .slice none 0 0, .slice none 0 0, .slice none 0 0] 76)
   have bZ := box4_new V0 (.bool false) (.slice none 0 0) (.slice none 0 0) (.slice none 0 0) 76 rfl
   refine (cP _ (Below.tr HB hA)).mono ?_
   rintro y u ⟨p, q, p', q', rfl, k1, k2, j1, j2, hb⟩
   have s1 := cell_below hb (cell_alloc q1 _)
   have s2 := cell_below hb (cell_alloc q3 _)
   replace bZ := bZ.below hb
   obtain ⟨⟨z0, z1, z2, z3⟩, y0, y1, y2, y3⟩ := id bZ
   refine hK.out _ _ ?_ (fun hHeld3 => ?_)
   ·
    exact ⟨s1, s2⟩
   clear hK K
   try go_frame
   refine wpAnyH_ready (rs := [8]) (by kernel_rfl) (by simp) ?_
   refine cons_at (i := 8) rfl (fun K hK => ?_) AllReadyH.nil
   go_simp
   have T4 := turns_put4 u V0.heap.size (.bool false) (.slice p 4 q) (.slice none 0 0) (.slice p' 5 q')
   have hlt : w.heap.size < V0.heap.size := A1.lt
   have F : LaidI V0 ((((u.setCell ⟨V0.heap.size, 0, none⟩ (.bool false)).setCell ⟨V0.heap.size, 1, none⟩ (.slice p 4 q)).setCell ⟨V0.heap.size, 2, none⟩ (.slice none 0 0)).setCell ⟨V0.heap.size, 3, none⟩ (.slice p' 5 q')) V0.heap.size p q p' q' K1 X1 :=
    ⟨bZ.put _ _ _ _, Nat.le_refl _, Below.turns (hA.trans (hb.mono (by simp))) T4 (fun k hk => by omega), k1.turns T4 (fun x hx e => by have := j1 x hx; simp at this; omega), k2.turns T4 (fun x hx e => by have := j2 x hx; simp at this; omega), j1.mono (by simp), j2.mono (by simp)⟩
   refine hK.out _ _ ?_ (fun hHeld4 => ?_)
   ·
    exact ⟨T4.cell (p := ⟨w.heap.size, 1, none⟩) (by show ¬ w.heap.size = _; omega) s1, T4.cell (p := ⟨w.heap.size, 3, none⟩) (by show ¬ w.heap.size = _; omega) s2⟩
   clear hK K
   try go_frame
   refine wpAnyH_done (by kernel_rfl) ?_ _
   refine NoPanic.normal ?_
   exact key.out _ _ p q p' q' F
 case kontV0 =>
  intro V g0 p0 n0 p0' n0' hF
  obtain ⟨D6, hg, hb, k1, k2, j1, j2⟩ := hF
  have hlt1 : w.heap.size + 2 < V0.heap.size := A4.lt
  have hVs : V0.heap.size ≤ V.heap.size := hb.size
  replace A1 := A1.below hb
  replace A2 := A2.below hb
  replace A4 := A4.below hb
  replace HB := Below.tr HB hb
  replace hcm0 : V0.cell? ⟨b, o + 4, none⟩ = some (.string mid) := by rw [HV0.out]; exact hcm0
  replace hcm0 := cell_below hb hcm0
  have KK1 : Hid (IsS V p0 n0 K1) := k1
  have KK2 : Hid (IsI V p0' n0' X1) := k2
  have JJ1 : Hid (From V0.heap.size p0) := j1
  have JJ2 : Hid (From V0.heap.size p0') := j2
  clear q0 q1 q2 q3 k1 k2 j1 j2 hb HV0
  obtain ⟨⟨q0, q1, q2, q3⟩, -⟩ := id A1
  go_wp2
  obtain ⟨V5, hV5⟩ : ∃ X, X = V.drew := ⟨_, rfl⟩
  replace HB : Below w.heap.size w V5 := by rw [hV5]; exact HB.drew
  replace A1 : Box4 V5 w.heap.size (.bool false) (.slice (some ⟨b, o, none⟩) 9 c) (.slice a'' n'' c'') (.slice (some ⟨b', o', none⟩) 10 c') := by rw [hV5]; exact A1.drew
  replace A2 : Box4 V5 (w.heap.size + 1) (.bool false) (.slice none 0 0) (.slice none 0 0) (.slice none 0 0) := by rw [hV5]; exact A2.drew
  replace A4 : Box4 V5 (w.heap.size + 2) (.bool false) (.slice none 0 0) (.slice none 0 0) (.slice none 0 0) := by rw [hV5]; exact A4.drew
  clear q0 q1 q2 q3
  obtain ⟨⟨q0, q1, q2, q3⟩, -⟩ := id A1
  have HV5 : Hid (V5 = V.drew) := hV5
  clear hV5
  refine (fun (key : Hid (∀ V g p q p' q', LaidI V5 V g p q p' q' K2 X2 → (?propV5 : World → Nat → Option Addr → Nat → Option Addr → Nat → Prop) V g p q p' q')) => ?regV5) ?kontV5
  case regV5 =>
   refine wp_region_noPanic ?_
   refine wp_region_held_drew (S := fun V => V.cell? ⟨w.heap.size, 1, none⟩ = some (.slice (some ⟨b, o, none⟩) 9 c) ∧ V.cell? ⟨w.heap.size, 3, none⟩ = some (.slice (some ⟨b', o', none⟩) 10 c')) (by kernel_rfl) (by rw [← HV5.out]; exact ⟨q1, q3⟩) (fun hHeld => ?_)
   rw [← HV5.out] at hHeld ⊢
   refine take_at (i := 0) (v := ?_) rfl (by kernel_rfl) (by kernel_rfl) (by kernel_rfl) (fun _ _ _ h => h) (Or.inl ⟨by rfl, ?_⟩) (by assumption) ?_
   rotate_left 1
   ·
    (intro w hSw; (try dsimp only at hSw); go_simp; (try with_reducible rfl))
   try go_frame
   refine take_at (i := 1) (v := ?_) rfl (by kernel_rfl) (by kernel_rfl) (by kernel_rfl) (fun _ _ _ h => h) (Or.inl ⟨by rfl, ?_⟩) (by assumption) ?_
   rotate_left 1
   ·
    (intro w hSw; (try dsimp only at hSw); go_simp; (try with_reducible rfl))
   try go_frame
   refine take_at (i := 2) (v := ?_) rfl (by kernel_rfl) (by kernel_rfl) (by kernel_rfl) (fun _ _ _ h => h) (Or.inl ⟨by rfl, ?_⟩) (by assumption) ?_
   rotate_left 1
   ·
    (intro w hSw; (try dsimp only at hSw); go_simp; (try with_reducible rfl))
   try go_frame
   refine take_at (i := 3) (v := ?_) rfl (by kernel_rfl) (by kernel_rfl) (by kernel_rfl) (fun _ _ _ h => h) (Or.inl ⟨by rfl, ?_⟩) (by assumption) ?_
   rotate_left 1
   ·
    (intro w hSw; (try dsimp only at hSw); go_simp; (try with_reducible rfl))
   try go_frame
   refine take_at (i := 4) (v := ?_) rfl (by kernel_rfl) (by kernel_rfl) (by kernel_rfl) (fun _ _ _ h => h) (Or.inl ⟨by rfl, ?_⟩) (by assumption) ?_
   rotate_left 1
   ·
    (intro w hSw; (try dsimp only at hSw); go_simp; (try with_reducible rfl))
   try go_frame
   refine take_at (i := 5) (v := ?_) rfl (by kernel_rfl) (by kernel_rfl) (by kernel_rfl) (fun _ _ _ h => h) (Or.inl ⟨by rfl, ?_⟩) (by assumption) ?_
   rotate_left 1
   ·
    (intro w hSw; (try dsimp only at hSw); go_simp; (try with_reducible rfl))
   try go_frame
   refine wpAnyH_ready (rs := [6, 7]) (by kernel_rfl) (by simp) ?_
   refine cons_at (i := 6) rfl (fun K hK => ?callFirstV5) (cons_at (i := 7) rfl (fun K hK => ?allocFirstV5) AllReadyH.nil)
   case callFirstV5 =>
    go_simp
    go_at_call 106
    refine (cQ _ HB).mono ?_
    rintro y u ⟨p, q, p', q', rfl, k1, k2, j1, j2, hb⟩
    have s1 := cell_below hb q1
    have s2 := cell_below hb q3
    refine hK.out _ _ ?_ (fun hHeld2 => ?_)
    ·
     exact ⟨s1, s2⟩
    clear hK K
    try go_frame
    refine wpAnyH_ready (rs := [7]) (by kernel_rfl) (by simp) ?_
    refine cons_at (i := 7) rfl (fun K hK => ?_) AllReadyH.nil
    go_simp
    refine hK.out _ _ ?_ (fun hHeld3 => ?_)
    ·
     exact ⟨cell_alloc s1 _, cell_alloc s2 _⟩
    clear hK K
    try go_frame
    refine wpAnyH_ready (rs := [8]) (by kernel_rfl) (by simp) ?_
    refine cons_at (i := 8) rfl (fun K hK => ?_) AllReadyH.nil
    go_simp
    have hA := (Below.refl u.heap.size u).alloc (Nat.le_refl _) (.cells #[.bool false, .slice p 4 q, .slice none 0 0, .slice p' 5 q'] 76)
    have F : LaidI V5 (u.alloc (.cells #[.bool false, .slice p 4 q, .slice none 0 0, .slice p' 5 q'] 76)) u.heap.size p q p' q' K2 X2 := ⟨box4_new _ _ _ _ _ _ rfl, hb.size, hb.alloc hb.size _, k1.below hA, k2.below hA, j1, j2⟩
    refine hK.out _ _ ?_ (fun hHeld4 => ?_)
    ·
     exact ⟨cell_alloc s1 _, cell_alloc s2 _⟩
    clear hK K
    try go_frame
    refine wpAnyH_done (by kernel_rfl) ?_ _
    refine NoPanic.normal ?_
    clear hHeld hHeld2 hHeld3 hHeld4 hA
    generalize u.alloc (.cells #[.bool false, .slice p 4 q, .slice none 0 0, .slice p' 5 q'] 76) = V at F ⊢
    generalize u.heap.size = g at F ⊢
    exact key.out V g p q p' q' F
   case allocFirstV5 =>
    go_simp
    refine hK.out _ _ ?_ (fun hHeld2 => ?_)
    ·
     exact ⟨cell_alloc q1 _, cell_alloc q3 _⟩
    clear hK K
    try go_frame
    refine wpAnyH_ready (rs := [6]) (by kernel_rfl) (by simp) ?_
    refine cons_at (i := 6) rfl (fun K hK => ?_) AllReadyH.nil
    go_simp
    go_at_call 106
    have hA := (Below.refl V5.heap.size V5).alloc (Nat.le_refl _) (.cells #[.bool false, .slice none 0 0, .slice none 0 0, .slice none 0 0] 76)
    have bZ := box4_new V5 (.bool false) (.slice none 0 0) (.slice none 0 0) (.slice none 0 0) 76 rfl
    refine (cQ _ (Below.tr HB hA)).mono ?_
    rintro y u ⟨p, q, p', q', rfl, k1, k2, j1, j2, hb⟩
    have s1 := cell_below hb (cell_alloc q1 _)
    have s2 := cell_below hb (cell_alloc q3 _)
    replace bZ := bZ.below hb
    obtain ⟨⟨z0, z1, z2, z3⟩, y0, y1, y2, y3⟩ := id bZ
    refine hK.out _ _ ?_ (fun hHeld3 => ?_)
    ·
     exact ⟨s1, s2⟩
    clear hK K
    try go_frame
    refine wpAnyH_ready (rs := [8]) (by kernel_rfl) (by simp) ?_
    refine cons_at (i := 8) rfl (fun K hK => ?_) AllReadyH.nil
    go_simp
    have T4 := turns_put4 u V5.heap.size (.bool false) (.slice p 4 q) (.slice none 0 0) (.slice p' 5 q')
    have hlt : w.heap.size < V5.heap.size := A1.lt
    have F : LaidI V5 ((((u.setCell ⟨V5.heap.size, 0, none⟩ (.bool false)).setCell ⟨V5.heap.size, 1, none⟩ (.slice p 4 q)).setCell ⟨V5.heap.size, 2, none⟩ (.slice none 0 0)).setCell ⟨V5.heap.size, 3, none⟩ (.slice p' 5 q')) V5.heap.size p q p' q' K2 X2 :=
     ⟨bZ.put _ _ _ _, Nat.le_refl _, Below.turns (hA.trans (hb.mono (by simp))) T4 (fun k hk => by omega), k1.turns T4 (fun x hx e => by have := j1 x hx; simp at this; omega), k2.turns T4 (fun x hx e => by have := j2 x hx; simp at this; omega), j1.mono (by simp), j2.mono (by simp)⟩
    refine hK.out _ _ ?_ (fun hHeld4 => ?_)
    ·
     exact ⟨T4.cell (p := ⟨w.heap.size, 1, none⟩) (by show ¬ w.heap.size = _; omega) s1, T4.cell (p := ⟨w.heap.size, 3, none⟩) (by show ¬ w.heap.size = _; omega) s2⟩
    clear hK K
    try go_frame
    refine wpAnyH_done (by kernel_rfl) ?_ _
    refine NoPanic.normal ?_
    exact key.out _ _ p q p' q' F
  case kontV5 =>
   intro V6 g1 p1 n1 p1' n1' hF
   obtain ⟨D7, hg1, hb, k1, k2, j1, j2⟩ := hF
   replace A1 := A1.below hb
   replace A2 := A2.below hb
   replace A4 := A4.below hb
   replace D6 : Box4 V5 g0 (.bool false) (.slice p0 4 n0) (.slice none 0 0) (.slice p0' 5 n0') := by rw [HV5.out]; exact D6.drew
   replace D6 := D6.below hb
   replace HB := Below.tr HB hb
   replace hcm0 : V5.cell? ⟨b, o + 4, none⟩ = some (.string mid) := by rw [HV5.out]; exact hcm0
   replace hcm0 := cell_below hb hcm0
   have hV5s : V.heap.size ≤ V5.heap.size := by rw [HV5.out]; exact Nat.le_refl _
   replace KK1 : Hid (IsS V6 p0 n0 K1) := IsS.below (w := V5) (by rw [HV5.out]; exact KK1.out) hb
   replace KK2 : Hid (IsI V6 p0' n0' X1) := IsI.below (w := V5) (by rw [HV5.out]; exact KK2.out) hb
   have KK3 : Hid (IsS V6 p1 n1 K2) := k1
   have KK4 : Hid (IsI V6 p1' n1' X2) := k2
   have JJ3 : Hid (From V5.heap.size p1) := j1
   have JJ4 : Hid (From V5.heap.size p1') := j2
   clear q0 q1 q2 q3 k1 k2 j1 j2 hb HV5
   obtain ⟨V7, hV7⟩ : ∃ X, X = V6.drew := ⟨_, rfl⟩
   replace A1 : Box4 V7 w.heap.size (.bool false) (.slice (some ⟨b, o, none⟩) 9 c) (.slice a'' n'' c'') (.slice (some ⟨b', o', none⟩) 10 c') := by rw [hV7]; exact A1.drew
   replace A2 : Box4 V7 (w.heap.size + 1) (.bool false) (.slice none 0 0) (.slice none 0 0) (.slice none 0 0) := by rw [hV7]; exact A2.drew
   replace A4 : Box4 V7 (w.heap.size + 2) (.bool false) (.slice none 0 0) (.slice none 0 0) (.slice none 0 0) := by rw [hV7]; exact A4.drew
   replace D6 : Box4 V7 g0 (.bool false) (.slice p0 4 n0) (.slice none 0 0) (.slice p0' 5 n0') := by rw [hV7]; exact D6.drew
   replace D7 : Box4 V7 g1 (.bool false) (.slice p1 4 n1) (.slice none 0 0) (.slice p1' 5 n1') := by rw [hV7]; exact D7.drew
   replace hcm0 : V7.cell? ⟨b, o + 4, none⟩ = some (.string mid) := by rw [hV7]; exact hcm0
   replace HB : Below w.heap.size w V7 := by rw [hV7]; exact HB.drew
   replace KK1 : Hid (IsS V7 p0 n0 K1) := by rw [hV7]; exact KK1
   replace KK2 : Hid (IsI V7 p0' n0' X1) := by rw [hV7]; exact KK2
   replace KK3 : Hid (IsS V7 p1 n1 K2) := by rw [hV7]; exact KK3
   replace KK4 : Hid (IsI V7 p1' n1' X2) := by rw [hV7]; exact KK4
   obtain ⟨V8, hV8⟩ : ∃ X, X = ((((V7.setCell ⟨w.heap.size + 1, 0, none⟩ (.bool false)).setCell ⟨w.heap.size + 1, 1, none⟩ (.slice p0 4 n0)).setCell ⟨w.heap.size + 1, 2, none⟩ (.slice none 0 0)).setCell ⟨w.heap.size + 1, 3, none⟩ (.slice p0' 5 n0')) := ⟨_, rfl⟩
   obtain ⟨V9, hV9⟩ : ∃ X, X = ((((V8.setCell ⟨w.heap.size + 2, 0, none⟩ (.bool false)).setCell ⟨w.heap.size + 2, 1, none⟩ (.slice p1 4 n1)).setCell ⟨w.heap.size + 2, 2, none⟩ (.slice none 0 0)).setCell ⟨w.heap.size + 2, 3, none⟩ (.slice p1' 5 n1')) := ⟨_, rfl⟩
   have T8 : Turns (fun k => k = w.heap.size + 1) V7 V8 := by rw [hV8]; exact turns_put4 V7 _ _ _ _ _
   have T9 : Turns (fun k => k = w.heap.size + 2) V8 V9 := by rw [hV9]; exact turns_put4 V8 _ _ _ _ _
   have A18 := A1.turns T8 (by omega)
   have A28 : Box4 V8 (w.heap.size + 1) (.bool false) (.slice p0 4 n0) (.slice none 0 0) (.slice p0' 5 n0') := by rw [hV8]; exact A2.put _ _ _ _
   have A48 := A4.turns T8 (by omega)
   have D78 := D7.turns T8 (by omega)
   have hcm8 : V8.cell? ⟨b, o + 4, none⟩ = some (.string mid) := T8.cell (p := ⟨b, o + 4, none⟩) (by show ¬ b = w.heap.size + 1; omega) hcm0
   have A29 := A28.turns T9 (by omega)
   have A49 : Box4 V9 (w.heap.size + 2) (.bool false) (.slice p1 4 n1) (.slice none 0 0) (.slice p1' 5 n1') := by rw [hV9]; exact A48.put _ _ _ _
   have HB9 : Hid (Below w.heap.size w V9) := Below.turns (Below.turns HB T8 (fun k hk => by omega)) T9 (fun k hk => by omega)
   replace KK1 : Hid (IsS V9 p0 n0 K1) := (KK1.out.turns T8 (fun x hx e => by have := JJ1.out x hx; omega)).turns T9 (fun x hx e => by have := JJ1.out x hx; omega)
   replace KK2 : Hid (IsI V9 p0' n0' X1) := (KK2.out.turns T8 (fun x hx e => by have := JJ2.out x hx; omega)).turns T9 (fun x hx e => by have := JJ2.out x hx; omega)
   replace KK3 : Hid (IsS V9 p1 n1 K2) := (KK3.out.turns T8 (fun x hx e => by have := JJ3.out x hx; omega)).turns T9 (fun x hx e => by have := JJ3.out x hx; omega)
   replace KK4 : Hid (IsI V9 p1' n1' X2) := (KK4.out.turns T8 (fun x hx e => by have := JJ4.out x hx; omega)).turns T9 (fun x hx e => by have := JJ4.out x hx; omega)
   have hst1 : Hid ((((V7.setCell ⟨w.heap.size + 1, 0, none⟩ (.bool false)).setCell ⟨w.heap.size + 1, 1, none⟩ (.slice p0 4 n0)).setCell ⟨w.heap.size + 1, 2, none⟩ (.slice none 0 0)).setCell ⟨w.heap.size + 1, 3, none⟩ (.slice p0' 5 n0') = V8) := hV8.symm
   have hst3 : Hid ((((V8.setCell ⟨w.heap.size + 1 + 1, 0, none⟩ (.bool false)).setCell ⟨w.heap.size + 1 + 1, 1, none⟩ (.slice p1 4 n1)).setCell ⟨w.heap.size + 1 + 1, 2, none⟩ (.slice none 0 0)).setCell ⟨w.heap.size + 1 + 1, 3, none⟩ (.slice p1' 5 n1') = V9) := hV9.symm
   have HV7 : Hid (V7 = V6.drew) := hV7
   obtain ⟨⟨q0, q1, q2, q3⟩, -⟩ := A1
   obtain ⟨⟨q08, q18, q28, q38⟩, -⟩ := A18
   obtain ⟨⟨d0, d1, d2, d3⟩, -⟩ := D6
   obtain ⟨⟨e0, e1, e2, e3⟩, -⟩ := D7
   obtain ⟨⟨e08, e18, e28, e38⟩, -⟩ := D78
   obtain ⟨⟨r0, r1, r2, r3⟩, u0, u1, u2, u3⟩ := A2
   obtain ⟨⟨t0, t1, t2, t3⟩, v0, v1, v2, v3⟩ := A48
   clear hV7 hV8 hV9 T8 T9 A28 A4 HB
   go_wp2
   refine region_worlds (by kernel_rfl) [6, 7, 8] (cutV (.agg #[.bool false, .slice p0 4 n0, .slice none 0 0, .slice p0' 5 n0']) (.slice (some ⟨b, o, none⟩) 9 c) (.agg #[.bool false, .slice p1 4 n1, .slice none 0 0, .slice p1' 5 n1']) w.heap.size b o mid) (worlds4 V7 V8 V8 V9) (by kernel_rfl) (by kernel_rfl) HV7.out.symm ?step 10 rfl ?done
   case step =>
    intro i o ho kk a2 hkk hmay hdf hsz hdep hsame
    match i, ho with
    | 0, ho =>
     cases ho
     have h8 := (hsame 8 rfl)
     match kk, hkk, hmay with
     | 0, _, hq => first | (cases hq; done) | (exact val_op rfl (wanted_free rfl) (by clear hdep hsame hsz hdf; (try simp only [cutV, worlds4]); go_simp) rfl rfl)
     | 1, _, hq => first | (cases hq; done) | (exact val_op rfl (wanted_free rfl) (by clear hdep hsame hsz hdf; (try simp only [cutV, worlds4]); go_simp) rfl rfl)
     | 2, _, hq => first | (cases hq; done) | (exact val_op rfl (wanted_free rfl) (by clear hdep hsame hsz hdf; (try simp only [cutV, worlds4]); go_simp) rfl rfl)
     | 3, _, hq => first | (cases hq; done) | (exact val_op rfl (wanted_free rfl) (by clear hdep hsame hsz hdf; (try simp only [cutV, worlds4]); go_simp) rfl rfl)
     | kk + 4, hkk, _ => simp at hkk
    | 1, ho =>
     cases ho
     have h1 := (hsame 1 rfl)
     exact val_op rfl (wanted_free rfl) (by clear hdep hsame hsz hdf; (try simp only [cutV, worlds4]); go_simp) rfl rfl
    | 2, ho =>
     cases ho
     have h58 := (hdep 1 _ 58 rfl rfl rfl)
     simp only [cutV] at h58
     match kk, hkk, hmay with
     | 0, _, hq => first | (cases hq; done) | (exact val_op rfl (wanted_free rfl) (by clear hdep hsame hsz hdf; (try simp only [cutV, worlds4]); go_simp) rfl rfl)
     | 1, _, hq => first | (cases hq; done) | (exact val_op rfl (wanted_free rfl) (by clear hdep hsame hsz hdf; (try simp only [cutV, worlds4]); go_simp) rfl rfl)
     | 2, _, hq => first | (cases hq; done) | (exact val_op rfl (wanted_free rfl) (by clear hdep hsame hsz hdf; (try simp only [cutV, worlds4]); go_simp) rfl rfl)
     | 3, _, hq => first | (cases hq; done) | (exact val_op rfl (wanted_free rfl) (by clear hdep hsame hsz hdf; (try simp only [cutV, worlds4]); go_simp) rfl rfl)
     | kk + 4, hkk, _ => simp at hkk
    | 3, ho =>
     cases ho
     have h59 := (hdep 2 _ 59 rfl rfl rfl)
     simp only [cutV] at h59
     exact val_op rfl (wanted_free rfl) (by clear hdep hsame hsz hdf; (try simp only [cutV, worlds4]); go_simp) rfl rfl
    | 4, ho =>
     cases ho
     have h60 := (hdep 3 _ 60 rfl rfl rfl)
     simp only [cutV] at h60
     match kk, hkk, hmay with
     | 0, _, hq => first | (cases hq; done) | (exact val_op rfl (wanted_free rfl) (by clear hdep hsame hsz hdf; (try simp only [cutV, worlds4]); go_simp) rfl rfl)
     | 1, _, hq => first | (cases hq; done) | (exact val_op rfl (wanted_free rfl) (by clear hdep hsame hsz hdf; (try simp only [cutV, worlds4]); go_simp) rfl rfl)
     | 2, _, hq => first | (cases hq; done) | (exact val_op rfl (wanted_free rfl) (by clear hdep hsame hsz hdf; (try simp only [cutV, worlds4]); go_simp) rfl rfl)
     | 3, _, hq => first | (cases hq; done) | (exact val_op rfl (wanted_free rfl) (by clear hdep hsame hsz hdf; (try simp only [cutV, worlds4]); go_simp) rfl rfl)
     | kk + 4, hkk, _ => simp at hkk
    | 5, ho =>
     cases ho
     have h9 := (hsame 9 rfl)
     match kk, hkk, hmay with
     | 0, _, hq => first | (cases hq; done) | (exact val_op rfl (wanted_free rfl) (by clear hdep hsame hsz hdf; (try simp only [cutV, worlds4]); go_simp) rfl rfl)
     | 1, _, hq => first | (cases hq; done) | (exact val_op rfl (wanted_free rfl) (by clear hdep hsame hsz hdf; (try simp only [cutV, worlds4]); go_simp) rfl rfl)
     | 2, _, hq => first | (cases hq; done) | (exact val_op rfl (wanted_free rfl) (by clear hdep hsame hsz hdf; (try simp only [cutV, worlds4]); go_simp) rfl rfl)
     | 3, _, hq => first | (cases hq; done) | (exact val_op rfl (wanted_free rfl) (by clear hdep hsame hsz hdf; (try simp only [cutV, worlds4]); go_simp) rfl rfl)
     | kk + 4, hkk, _ => simp at hkk
    | 6, ho =>
     cases ho
     have h2 := (hsame 2 rfl)
     have h57 := (hdep 0 _ 57 rfl rfl rfl)
     simp only [cutV] at h57
     match kk, hkk, hmay with
     | 0, _, _ => exact val_skip rfl (wanted_free rfl) rfl (by clear hdep hsame hsz hdf; simp only [worlds4]; go_simp; try exact hst1.out) rfl
     | 1, _, hq => cases hq
     | 2, _, hq => cases hq
     | 3, _, hq => cases hq
     | kk + 4, hkk, _ => simp at hkk
    | 7, ho =>
     cases ho
     have h61 := (hdep 4 _ 61 rfl rfl rfl)
     simp only [cutV] at h61
     match kk, hkk, hmay with
     | 0, _, hq => cases hq
     | 1, _, _ => exact val_op rfl (wanted_free rfl) (by clear hdep hsame hsz hdf; (try simp only [cutV, worlds4]); go_simp) rfl rfl
     | 2, _, hq => cases hq
     | 3, _, hq => cases hq
     | kk + 4, hkk, _ => simp at hkk
    | 8, ho =>
     cases ho
     have h4 := (hsame 4 rfl)
     have h62 := (hdep 5 _ 62 rfl rfl rfl)
     simp only [cutV] at h62
     match kk, hkk, hmay with
     | 0, _, hq => cases hq
     | 1, _, hq => cases hq
     | 2, _, _ => exact val_skip rfl (wanted_free rfl) rfl (by clear hdep hsame hsz hdf; simp only [worlds4]; go_simp; try exact hst3.out) rfl
     | 3, _, hq => cases hq
     | kk + 4, hkk, _ => simp at hkk
    | 9, ho =>
     cases ho
     exact val_op rfl (wanted_free rfl) (by clear hdep hsame hsz hdf; (try simp only [cutV, worlds4]); go_simp) rfl rfl
    | kk + 10, ho => simp at ho
   case done =>
    simp [filledN, cutV, worlds4]
    obtain ⟨⟨x0, x1, x2, x3⟩, -⟩ := A29
    obtain ⟨⟨y0, y1, y2, y3⟩, -⟩ := A49
    go_wp2
    refine bodyPost_ret (v := .tuple #[.agg #[.bool false, .slice p0 4 n0, .slice none 0 0, .slice p0' 5 n0'], .string mid, .agg #[.bool false, .slice p1 4 n1, .slice none 0 0, .slice p1' 5 n1'], .int .i64 0]) (by simp [results, Tryz.results87, go_sem, x0, x1, x2, x3, y0, y1, y2, y3]) rfl ⟨p0, n0, p0', n0', p1, n1, p1', n1', rfl, KK1.out, KK2.out, KK3.out, KK4.out, ⟨JJ1.out.mono (by omega), JJ2.out.mono (by omega), JJ3.out.mono (by omega), JJ4.out.mono (by omega)⟩, HB9.out⟩
end Go.Proofs.YtaecfbfcjaailaaGreat
namespace Go.Proofs.YtaecfbfcjaailaaGreat
open Go.RowKit Plain
set_option linter.unusedVariables false
def cutOk (l : Bool) (ks vs : List ByteArray) (cs : List Int) : Bool := standsN l ks vs cs && decide (ks.length = 9)
def cutL (l : Bool) (ks vs : List ByteArray) (cs : List Int) : Bool := cutOk l ks vs cs && l
def cutAK (l : Bool) (ks vs : List ByteArray) (cs : List Int) : List ByteArray := if cutOk l ks vs cs = true then ks.take 4 else []
def cutAV (l : Bool) (ks vs : List ByteArray) (cs : List Int) : List ByteArray := if cutOk l ks vs cs = true then vs.take 4 else []
def cutAC (l : Bool) (ks vs : List ByteArray) (cs : List Int) : List Int := if cutOk l ks vs cs = true then cs.take 5 else []
def cutBK (l : Bool) (ks vs : List ByteArray) (cs : List Int) : List ByteArray := if cutOk l ks vs cs = true then ks.drop (cutFrom l) else []
def cutBV (l : Bool) (ks vs : List ByteArray) (cs : List Int) : List ByteArray := if cutOk l ks vs cs = true then vs.drop 4 else []
def cutBC (l : Bool) (ks vs : List ByteArray) (cs : List Int) : List Int := if cutOk l ks vs cs = true then cs.drop 5 else []
def cutM (l : Bool) (ks vs : List ByteArray) (cs : List Int) : ByteArray := if cutOk l ks vs cs = true then ks.getD 4 ⟨#[]⟩ else ⟨#[]⟩
def cutEr (l : Bool) (ks vs : List ByteArray) (cs : List Int) : Int := if cutOk l ks vs cs = true then 0 else 1
def Answers2F (w : World) (x : Ending) (w' : World) (l : Bool) (ks vs : List ByteArray) (cs : List Int) (mid : ByteArray) (ks2 vs2 : List ByteArray) (cs2 : List Int) (E : Int) : Prop :=
 ∃ n a d n' a' d' n'' a'' d'' m e f m' e' f' m'' e'' f'', x = .returned (.tuple #[.agg #[.bool l, .slice a n d, .slice a' n' d', .slice a'' n'' d''], .string mid, .agg #[.bool l, .slice e m f, .slice e' m' f', .slice e'' m'' f''], .int .i64 E]) ∧
  n = ks.length ∧ n' = vs.length ∧ n'' = cs.length ∧ m = ks2.length ∧ m' = vs2.length ∧ m'' = cs2.length ∧
  IsS w' a d ks ∧ IsS w' a' d' vs ∧ IsI w' a'' d'' cs ∧ IsS w' e f ks2 ∧ IsS w' e' f' vs2 ∧ IsI w' e'' f'' cs2 ∧ (From w.heap.size a ∧ From w.heap.size a' ∧ From w.heap.size a'' ∧ From w.heap.size e ∧ From w.heap.size e' ∧ From w.heap.size e'') ∧ Below w.heap.size w w'
set_option maxRecDepth 20000 in
set_option maxHeartbeats 1000000 in
theorem cutBadF_any (l : Bool) (a a' a'' : Option Addr) (c c' c'' n n' n'' : Nat) (ks vs : List ByteArray) (cs : List Int) (w : World)
  (hn : n = ks.length) (hn' : n' = vs.length) (hn'' : n'' = cs.length) (hK : IsS w a c ks) (hV : IsS w a' c' vs) (hC : IsI w a'' c'' cs) (hbad : ¬ (standsN l ks vs cs = true ∧ ks.length = 9)) :
  Calls Tryz.prog 87 #[.agg #[.bool l, .slice a n c, .slice a' n' c', .slice a'' n'' c'']] w fun x w' => Answers2F w x w' false [] [] [] ⟨#[]⟩ [] [] [] 1 := by
 obtain ⟨W, hW⟩ : ∃ W, W = ((w.alloc (.cells #[.bool l, .slice a n c, .slice a' n' c', .slice a'' n'' c''] 76)).alloc (.cells #[.bool false, .slice none 0 0, .slice none 0 0, .slice none 0 0] 76)).alloc (.cells #[.bool false, .slice none 0 0, .slice none 0 0, .slice none 0 0] 76) := ⟨_, rfl⟩
 have A1 : Box4 W w.heap.size (.bool l) (.slice a n c) (.slice a' n' c') (.slice a'' n'' c'') := by rw [hW]; exact ((box4_new _ _ _ _ _ _ rfl).alloc _).alloc _
 have A2 : Box4 W (w.heap.size + 1) (.bool false) (.slice none 0 0) (.slice none 0 0) (.slice none 0 0) := by rw [hW]; exact (box4_new _ _ _ _ _ _ (by simp)).alloc _
 have A4 : Box4 W (w.heap.size + 2) (.bool false) (.slice none 0 0) (.slice none 0 0) (.slice none 0 0) := by rw [hW]; exact box4_new _ _ _ _ _ _ (by simp)
 have HB : Below w.heap.size w W := by rw [hW]; exact (((Below.refl _ _).alloc (Nat.le_refl _) _).alloc (by simp) _).alloc (by simp; omega) _
 have c1 : ∀ V, Below w.heap.size w V → Calls Tryz.prog 81 #[.agg #[.bool l, .slice a n c, .slice a' n' c', .slice a'' n'' c'']] V fun e w' => e = .returned (.bool (standsN l ks vs cs)) ∧ Below V.heap.size V w' := fun V h => mayStand_any l a a' a'' c c' c'' n n' n'' ks vs cs V hn hn' hn'' (hK.below h) (hV.below h) (hC.below h)
 have hn9 : standsN l ks vs cs = true → ¬ n = 9 := fun h hh => hbad ⟨h, by omega⟩
 clear hbad hn hn' hn'' hK hV hC
 have hle : w.heap.size ≤ w.heap.size + 1 := by omega
 have hle2 : w.heap.size ≤ w.heap.size + 1 + 1 := by omega
 obtain ⟨⟨q0, q1, q2, q3⟩, -⟩ := id A1
 cases h1 : standsN l ks vs cs with
 | false =>
  rw [h1] at c1
  clear h1 hn9
  go_enter Tryz.func87, Tryz.ntmps87
  go_wp2_with (go_at_call 81; rw [← hW]; refine (c1 _ HB).mono ?_; rintro y w1 ⟨rfl, hb⟩; replace HB := Below.tr HB hb; replace A2 := A2.below hb; replace A4 := A4.below hb; obtain ⟨⟨r0, r1, r2, r3⟩, g0, g1, g2, g3⟩ := id A2; obtain ⟨⟨s0, s1, s2, s3⟩, t0, t1, t2, t3⟩ := id A4; clear q0 q1 q2 q3 hb)
  exact bodyPost_ret (v := .tuple #[.agg #[.bool false, .slice none 0 0, .slice none 0 0, .slice none 0 0], .string ⟨#[]⟩, .agg #[.bool false, .slice none 0 0, .slice none 0 0, .slice none 0 0], .int .i64 1]) (by simp [results, Tryz.results87, go_sem, r0, r1, r2, r3, s0, s1, s2, s3]) rfl ⟨0, none, 0, 0, none, 0, 0, none, 0, 0, none, 0, 0, none, 0, 0, none, 0, rfl, rfl, rfl, rfl, rfl, rfl, rfl, isS_nil _, isS_nil _, isI_nil _, isS_nil _, isS_nil _, isI_nil _, ⟨from_nil _, from_nil _, from_nil _, from_nil _, from_nil _, from_nil _⟩, below_put4 (below_put4 HB hle _ _ _ _) hle2 _ _ _ _⟩
 | true =>
  replace hn9 := hn9 h1
  rw [h1] at c1
  clear h1
  go_enter Tryz.func87, Tryz.ntmps87
  go_wp2_with (go_at_call 81; rw [← hW]; refine (c1 _ HB).mono ?_; rintro y w1 ⟨rfl, hb⟩; replace HB := Below.tr HB hb; replace A1 := A1.below hb; replace A2 := A2.below hb; replace A4 := A4.below hb; obtain ⟨⟨r0, r1, r2, r3⟩, g0, g1, g2, g3⟩ := id A2; obtain ⟨⟨s0, s1, s2, s3⟩, t0, t1, t2, t3⟩ := id A4; clear q0 q1 q2 q3; obtain ⟨⟨q0, q1, q2, q3⟩, -⟩ := id A1; clear hb)
  exact bodyPost_ret (v := .tuple #[.agg #[.bool false, .slice none 0 0, .slice none 0 0, .slice none 0 0], .string ⟨#[]⟩, .agg #[.bool false, .slice none 0 0, .slice none 0 0, .slice none 0 0], .int .i64 1]) (by simp [results, Tryz.results87, go_sem, r0, r1, r2, r3, s0, s1, s2, s3]) rfl ⟨0, none, 0, 0, none, 0, 0, none, 0, 0, none, 0, 0, none, 0, 0, none, 0, rfl, rfl, rfl, rfl, rfl, rfl, rfl, isS_nil _, isS_nil _, isI_nil _, isS_nil _, isS_nil _, isI_nil _, ⟨from_nil _, from_nil _, from_nil _, from_nil _, from_nil _, from_nil _⟩, below_put4 (below_put4 HB hle _ _ _ _) hle2 _ _ _ _⟩
theorem nodeCutF_any (l : Bool) (a a' a'' : Option Addr) (c c' c'' n n' n'' : Nat) (ks vs : List ByteArray) (cs : List Int) (w : World)
  (hn : n = ks.length) (hn' : n' = vs.length) (hn'' : n'' = cs.length) (hK : IsS w a c ks) (hV : IsS w a' c' vs) (hC : IsI w a'' c'' cs) :
  Calls Tryz.prog 87 #[.agg #[.bool l, .slice a n c, .slice a' n' c', .slice a'' n'' c'']] w fun x w' => Answers2F w x w' (cutL l ks vs cs) (cutAK l ks vs cs) (cutAV l ks vs cs) (cutAC l ks vs cs) (cutM l ks vs cs) (cutBK l ks vs cs) (cutBV l ks vs cs) (cutBC l ks vs cs) (cutEr l ks vs cs) := by
 by_cases h : standsN l ks vs cs = true ∧ ks.length = 9
 ·
  have hok : cutOk l ks vs cs = true := by unfold cutOk; rw [h.1, decide_eq_true h.2]; rfl
  unfold cutL cutAK cutAV cutAC cutM cutBK cutBV cutBC cutEr
  rw [hok]
  simp only [if_true, Bool.true_and]
  obtain ⟨h1, h9⟩ := h
  have hl4 : 4 < ks.length := by omega
  have hm : ks[4]? = some (ks.getD 4 ⟨#[]⟩) := by rw [List.getD_eq_getElem?_getD, List.getElem?_eq_getElem hl4]; rfl
  obtain rfl : n = 9 := by omega
  cases l with
  | true =>
   obtain ⟨rfl, hv⟩ := leaf_one_eq h1
   obtain rfl : n' = 9 := by omega
   obtain ⟨b, o, rfl⟩ : ∃ b o, a = some ⟨b, o, none⟩ := by
    obtain ⟨b, o, e, _⟩ := hK.2.2 4 _ hm
    exact ⟨b, o, e⟩
   obtain ⟨b', o', rfl⟩ : ∃ b o, a' = some ⟨b, o, none⟩ := by
    obtain ⟨b, o, e, _⟩ := hV.2.2 4 _ (List.getElem?_eq_getElem (by omega))
    exact ⟨b, o, e⟩
   refine (cutLeaf_any b o c b' o' c' a'' c'' n'' ks vs w hn hn' hn'' hK hV hC h1 hm).mono fun x w' hx => ?_
   obtain ⟨p, q, p', q', r, s, r', s', rfl, k1, k2, k3, k4, ⟨f1, f2, f3, f4⟩, hb⟩ := hx
   refine ⟨4, p, q, 4, p', q', 0, none, 0, 5, r, s, 5, r', s', 0, none, 0, rfl, ?_, ?_, by simp, ?_, ?_, by simp, k1, k2, ?_, ?_, k4, ?_, ⟨f1, f2, from_nil _, f3, f4, from_nil _⟩, hb⟩
   ·
    rw [List.length_take]; omega
   ·
    rw [List.length_take]; omega
   ·
    rw [List.length_drop]; unfold cutFrom; simp; omega
   ·
    rw [List.length_drop]; omega
   ·
    simpa using isI_nil _
   ·
    exact k3
   ·
    simpa using isI_nil _
  | false =>
   obtain ⟨rfl, hv, _⟩ := inner_one_eq h1
   obtain rfl : n'' = 10 := by omega
   obtain ⟨b, o, rfl⟩ : ∃ b o, a = some ⟨b, o, none⟩ := by
    obtain ⟨b, o, e, _⟩ := hK.2.2 4 _ hm
    exact ⟨b, o, e⟩
   obtain ⟨b', o', rfl⟩ : ∃ b o, a'' = some ⟨b, o, none⟩ := by
    obtain ⟨b, o, e, _⟩ := hC.2.2 4 _ (List.getElem?_eq_getElem (by omega))
    exact ⟨b, o, e⟩
   refine (cutInner_any b o c b' o' c'' a' c' n' ks cs w hn hn' hn'' hK hV hC h1 hm).mono fun x w' hx => ?_
   obtain ⟨p, q, p', q', r, s, r', s', rfl, k1, k2, k3, k4, ⟨f1, f2, f3, f4⟩, hb⟩ := hx
   refine ⟨4, p, q, 0, none, 0, 5, p', q', 4, r, s, 0, none, 0, 5, r', s', rfl, ?_, by simp, ?_, ?_, by simp, ?_, k1, ?_, k2, ?_, ?_, k4, ⟨f1, from_nil _, f2, f3, from_nil _, f4⟩, hb⟩
   ·
    rw [List.length_take]; omega
   ·
    rw [List.length_take]; omega
   ·
    rw [List.length_drop]; unfold cutFrom; simp; omega
   ·
    rw [List.length_drop]; omega
   ·
    simpa using isS_nil _
   ·
    exact k3
   ·
    simpa using isS_nil _
 ·
  have hok : cutOk l ks vs cs = false := by
   unfold cutOk
   cases hh : standsN l ks vs cs with
   | false => rfl
   | true => simp only [Bool.true_and, decide_eq_false_iff_not]; exact fun h9 => h ⟨hh, h9⟩
  unfold cutL cutAK cutAV cutAC cutM cutBK cutBV cutBC cutEr
  rw [hok]
  simp only [Bool.false_eq_true, if_false, Bool.false_and]
  exact cutBadF_any l a a' a'' c c' c'' n n' n'' ks vs cs w hn hn' hn'' hK hV hC h
end Go.Proofs.YtaecfbfcjaailaaGreat
namespace Go.Proofs.YtaecfbfcjaailaaGreat.Plain
open Go.RowKit
set_option linter.unusedVariables false
inductive Subtree (H : Int → Bool → Option NodeS) : Nat → Int → ByteArray → ByteArray → List (ByteArray × ByteArray) → Prop
 | leaf {k : Nat} {block : Int} {low high : ByteArray} {ks vs : List ByteArray} {cs : List Int} (h : H block (decide (k = 7)) = some (true, ks, vs, cs)) (hne : ks ≠ []) (hw : ∀ x ∈ ks, withinS x low high = true) : Subtree H (k + 1) block low high (ks.zip vs)
 | inner {k : Nat} {block : Int} {low high : ByteArray} {ks vs : List ByteArray} {cs : List Int} {Qs : List (List (ByteArray × ByteArray))} (h : H block (decide (k = 7)) = some (false, ks, vs, cs)) (hw : ∀ x ∈ ks, withinS x low high = true) (hl : Qs.length = cs.length)
   (hq : ∀ (i : Nat) (b : Int) (Q : List (ByteArray × ByteArray)), cs[i]? = some b → Qs[i]? = some Q → Subtree H k b (kidFrom low ks i) (kidTo high ks i) Q) : Subtree H (k + 1) block low high Qs.flatten
theorem any_within {ks : List ByteArray} {low high : ByteArray} (h : (ks.any fun k => !withinS k low high) = false) : ∀ x ∈ ks, withinS x low high = true := by
 intro x hx
 have := List.any_eq_false.1 h x hx
 simpa using this
theorem below_sub (H : Int → Bool → Option NodeS) : ∀ (k : Nat) (t : TreeS) (block : Int) (low high : ByteArray), (belowS H k t block low high).bad = false → t.bad = false ∧ ∃ Q, Subtree H k block low high Q ∧ (belowS H k t block low high).pairs = t.pairs ++ Q
 | 0, t, block, low, high, h => by cases h
 | k + 1, t, block, low, high, h => by
  have fold : ∀ (l : List (Int × ByteArray × ByteArray)) (t0 : TreeS), (l.foldl (fun t x => if t.bad then t else belowS H k t x.1 x.2.1 x.2.2) t0).bad = false → t0.bad = false ∧ ∃ Qs : List (List (ByteArray × ByteArray)), Qs.length = l.length ∧ (∀ (i : Nat) x Q, l[i]? = some x → Qs[i]? = some Q → Subtree H k x.1 x.2.1 x.2.2 Q) ∧ (l.foldl (fun t x => if t.bad then t else belowS H k t x.1 x.2.1 x.2.2) t0).pairs = t0.pairs ++ Qs.flatten := by
   intro l
   induction l with
   | nil => exact fun t0 h0 => ⟨h0, [], rfl, fun i x Q hx => by simp at hx, by simp⟩
   | cons x l ih =>
    intro t0 h0
    rw [List.foldl_cons] at h0 ⊢
    obtain ⟨h1, Qs, hl, hq, hp⟩ := ih _ h0
    by_cases hb : t0.bad = true
    ·
     rw [if_pos hb] at h1
     rw [hb] at h1
     cases h1
    ·
     rw [if_neg hb] at h1 hp
     obtain ⟨h2, Q, hQ, hp2⟩ := below_sub H k t0 _ _ _ h1
     refine ⟨h2, Q :: Qs, by rw [List.length_cons, List.length_cons, hl], ?_, ?_⟩
     ·
      intro i y R hy hR
      cases i with
      | zero => simp at hy hR; subst hy hR; exact hQ
      | succ i => exact hq i y R (by simpa using hy) (by simpa using hR)
     ·
      rw [if_neg hb, hp, hp2, List.flatten_cons, List.append_assoc]
  rw [belowS] at h ⊢
  split at h
  ·
   cases h
  ·
   rename_i hb
   rw [if_neg hb]
   have hb' : t.bad = false := by
    cases hh : t.bad with
    | false => rfl
    | true => exact absurd (by rw [hh, Bool.or_true]) hb
   split at h
   ·
    cases h
   ·
    rename_i nd hnd
    obtain ⟨l, ks, vs, cs⟩ := nd
    simp only at h ⊢
    split at h
    ·
     cases h
    ·
     rename_i hem
     rw [if_neg hem]
     cases l with
     | true =>
      simp only [if_true] at h ⊢
      have h1 : (ks.any fun k => !withinS k low high) = false := by
       have h2 : ((ks.any fun k => !withinS k low high) || (decide (t.height ≠ 0) && decide (t.height ≠ 8 - (k : Int)))) = false := h
       exact (Bool.or_eq_false_iff.1 h2).1
      refine ⟨hb', ks.zip vs, .leaf hnd (fun e => hem (by simp [e])) (any_within h1), rfl⟩
     | false =>
      simp only [Bool.false_eq_true, if_false] at h ⊢
      obtain ⟨h1, Qs, hl, hq, hp⟩ := fold _ _ h
      refine ⟨hb', Qs.flatten, .inner hnd (any_within h1) (by rw [hl, kidsT_length]) (fun i b Q hb hQ => hq i _ Q (kidsT_get hb) hQ), ?_⟩
      rw [hp]
      rfl
theorem within_low {x low high : ByteArray} (h : withinS x low high = true) : ltB x low = false := by
 unfold withinS at h
 cases hh : ltB x low with
 | false => rfl
 | true => rw [hh] at h; simp at h
theorem within_high {x low high : ByteArray} (h : withinS x low high = true) : high.size = 0 ∨ ltB x high = true := by
 unfold withinS at h
 simp only [Bool.and_eq_true, Bool.or_eq_true, decide_eq_true_eq] at h
 exact h.2
theorem within_of {x low high : ByteArray} (h1 : ltB x low = false) (h2 : high.size = 0 ∨ ltB x high = true) : withinS x low high = true := by
 unfold withinS
 simp only [Bool.and_eq_true, Bool.or_eq_true, decide_eq_true_eq]
 exact ⟨by rw [h1]; rfl, h2⟩
theorem not_below {x y low : ByteArray} (h1 : ltB x y = false) (h2 : ltB y low = false) : ltB x low = false := by
 cases hh : ltB x low with
 | false => rfl
 | true => rw [ltB_le hh h2] at h1; cases h1
def keyIn (x : ByteArray) : Prop := 1 ≤ x.size ∧ x.size ≤ 32
theorem sub_rising {H : Int → Bool → Option NodeS} (hH : ∀ b r (n : NodeS), H b r = some n → risingK n.2.1 = true ∧ (∀ x ∈ n.2.1, keyIn x) ∧ (n.1 = true → n.2.2.1.length = n.2.1.length) ∧ (n.1 = false → n.2.2.2.length = n.2.1.length + 1)) {k : Nat} {block : Int} {low high : ByteArray} {Q : List (ByteArray × ByteArray)} (h : Subtree H k block low high Q) :
  Q.Pairwise (fun a b => ltB a.1 b.1 = true) ∧ ∀ p ∈ Q, withinS p.1 low high = true ∧ keyIn p.1 := by
 induction h with
 | @leaf k block low high ks vs cs h hne hw =>
  obtain ⟨h1, h2, h3, _⟩ := hH _ _ _ h
  have hm : (ks.zip vs).map Prod.fst = ks := List.map_fst_zip (by have := h3 rfl; simp at this; omega)
  refine ⟨?_, fun p hp => ?_⟩
  ·
   have := rising_pair h1
   simp only at this
   rw [← hm, List.pairwise_map] at this
   exact this
  ·
   have := (List.of_mem_zip hp).1
   exact ⟨hw _ this, h2 _ this⟩
 | @inner k block low high ks vs cs Qs h hw hl hq ih =>
  obtain ⟨h1, h2, _, h4⟩ := hH _ _ _ h
  replace h4 : cs.length = ks.length + 1 := h4 rfl
  replace h1 : risingK ks = true := h1
  replace h2 : ∀ x ∈ ks, keyIn x := h2
  have hr := rising_iff.1 h1
  have at_ : ∀ (i : Nat) Q, Qs[i]? = some Q → (Q.Pairwise (fun a b => ltB a.1 b.1 = true) ∧ ∀ p ∈ Q, withinS p.1 (kidFrom low ks i) (kidTo high ks i) = true ∧ keyIn p.1) ∧ i ≤ ks.length := by
   intro i Q hQ
   have hi := (List.getElem?_eq_some_iff.1 hQ).1
   have hi' : i < cs.length := by omega
   exact ⟨ih i _ Q (List.getElem?_eq_getElem hi') hQ, by omega⟩
  have kf : ∀ (i : Nat) y, ks[i]? = some y → kidFrom low ks (i + 1) = y := fun i y hy => by
   unfold kidFrom
   rw [if_neg (by omega), Nat.add_sub_cancel, List.getD_eq_getElem?_getD, hy]
   rfl
  have kt : ∀ (i : Nat) y, ks[i]? = some y → kidTo high ks i = y := fun i y hy => by
   unfold kidTo
   rw [if_pos (List.getElem?_eq_some_iff.1 hy).1, List.getD_eq_getElem?_getD, hy]
   rfl
  refine ⟨List.pairwise_flatten.2 ⟨fun Q hQ => ?_, ?_⟩, fun p hp => ?_⟩
  ·
   obtain ⟨i, hi⟩ := List.mem_iff_getElem?.1 hQ
   exact (at_ i Q hi).1.1
  ·
   rw [List.pairwise_iff_getElem]
   intro i j hi hj hij x hx y hy
   obtain ⟨⟨_, hA⟩, _⟩ := at_ i _ (List.getElem?_eq_getElem hi)
   obtain ⟨⟨_, hB⟩, hj'⟩ := at_ j _ (List.getElem?_eq_getElem hj)
   obtain ⟨j, rfl⟩ : ∃ j', j = j' + 1 := ⟨j - 1, by omega⟩
   have hik : i < ks.length := by omega
   have hjk : j < ks.length := by omega
   have a1 := (hA x hx).1
   have b1 := (hB y hy).1
   rw [kt i _ (List.getElem?_eq_getElem hik)] at a1
   rw [kf j _ (List.getElem?_eq_getElem hjk)] at b1
   have a2 : ltB x.1 ks[i] = true := (within_high a1).resolve_left (by have := (h2 _ (List.getElem_mem hik)).1; omega)
   have b2 := within_low b1
   by_cases e : i = j
   ·
    subst e
    exact ltB_le a2 b2
   ·
    exact ltB_le (ltB_trans a2 (hr i j _ _ (by omega) (List.getElem?_eq_getElem hik) (List.getElem?_eq_getElem hjk))) b2
  ·
   obtain ⟨Q, hQ, hpQ⟩ := List.mem_flatten.1 hp
   obtain ⟨i, hi⟩ := List.mem_iff_getElem?.1 hQ
   obtain ⟨⟨_, hA⟩, hik⟩ := at_ i Q hi
   obtain ⟨a1, a2⟩ := hA p hpQ
   refine ⟨within_of ?_ ?_, a2⟩
   ·
    cases i with
    | zero => exact within_low a1
    | succ i =>
     have hik' : i < ks.length := by omega
     rw [kf i _ (List.getElem?_eq_getElem hik')] at a1
     exact not_below (within_low a1) (within_low (hw _ (List.getElem_mem hik')))
   ·
    by_cases hk : i < ks.length
    ·
     rw [kt i _ (List.getElem?_eq_getElem hk)] at a1
     have a3 : ltB p.1 ks[i] = true := (within_high a1).resolve_left (by have := (h2 _ (List.getElem_mem hk)).1; omega)
     rcases within_high (hw _ (List.getElem_mem hk)) with e | e
     ·
      exact .inl e
     ·
      exact .inr (ltB_trans a3 e)
    ·
     have : kidTo high ks i = high := by unfold kidTo; rw [if_neg hk]
     rw [this] at a1
     exact within_high a1
def getP : List (ByteArray × ByteArray) → ByteArray → ByteArray × Int
 | [], _ => (⟨#[]⟩, 80)
 | p :: ps, key => if p.1 = key then (p.2, 0) else getP ps key
theorem getP_skip {ps : List (ByteArray × ByteArray)} {key : ByteArray} {j : Nat} {p : ByteArray × ByteArray} (hp : ps[j]? = some p) (h : ∀ i q, i < j → ps[i]? = some q → q.1 ≠ key) (hk : p.1 = key) : getP ps key = (p.2, 0) := by
 induction ps generalizing j with
 | nil => simp at hp
 | cons q ps ih =>
  cases j with
  | zero => simp at hp; subst hp; rw [getP, if_pos hk]
  | succ j =>
   rw [getP, if_neg (h 0 q (by omega) rfl)]
   exact ih (by simpa using hp) (fun i q' hi hq => h (i + 1) q' (by omega) (by simpa using hq))
theorem getP_none {ps : List (ByteArray × ByteArray)} {key : ByteArray} (h : ∀ q ∈ ps, q.1 ≠ key) : getP ps key = (⟨#[]⟩, 80) := by
 induction ps with
 | nil => rfl
 | cons q ps ih =>
  rw [getP, if_neg (h q (by simp))]
  exact ih fun q' hq => h q' (by simp [hq])
def Rising (ps : List (ByteArray × ByteArray)) : Prop := ps.Pairwise fun a b => ltB a.1 b.1 = true
theorem ltB_none (x : ByteArray) : ltB x ⟨#[]⟩ = false := by
 have e : (⟨#[]⟩ : ByteArray).toList = [] := by rw [ByteArray.toList_eq]
 show Op.bytesLess x.toList (⟨#[]⟩ : ByteArray).toList = false
 rw [e]
 cases x.toList <;> rfl
theorem get_at_ {ps : List (ByteArray × ByteArray)} (h : Rising ps) {j : Nat} {p : ByteArray × ByteArray} (hp : ps[j]? = some p) : getP ps p.1 = (p.2, 0) := by
 refine getP_skip hp (fun i q hi hq e => ?_) rfl
 have h1 := (List.getElem?_eq_some_iff.1 hp)
 have h2 := (List.getElem?_eq_some_iff.1 hq)
 obtain ⟨a1, rfl⟩ := h1
 obtain ⟨a2, rfl⟩ := h2
 have := List.pairwise_iff_getElem.1 h i j a2 a1 hi
 rw [e, ltB_irrefl] at this
 cases this
theorem nodup_le : ∀ (N : Nat) (l : List Int), l.Nodup → (∀ b ∈ l, 0 ≤ b ∧ b < N) → l.length ≤ N
 | 0, l, _, h => by
  cases l with
  | nil => exact Nat.le_refl _
  | cons b l => have := h b (by simp); omega
 | N + 1, l, hn, h => by
  by_cases hm : (N : Int) ∈ l
  ·
   have h1 := nodup_le N (l.erase N) (hn.erase _) (fun b hb => by
    have h2 := (List.Nodup.mem_erase_iff hn).1 hb
    have h3 := h b h2.2
    have h4 := h2.1
    omega)
   rw [List.length_erase_of_mem hm] at h1
   omega
  ·
   have := nodup_le N l hn (fun b hb => by
    have h3 := h b hb
    have h4 : b ≠ (N : Int) := fun e => hm (e ▸ hb)
    omega)
   omega
def Sound (N : Nat) (t : TreeS) : Prop := t.blocks.Nodup ∧ (∀ b ∈ t.blocks, 0 ≤ b ∧ b < N) ∧ t.pairs.length ≤ 9 * t.blocks.length
theorem sound_none (N : Nat) : Sound N TreeS.none := ⟨List.nodup_nil, (fun b hb => absurd hb (by simp [TreeS.none])), Nat.le_refl _⟩
theorem sound_below {H : Int → Bool → Option NodeS} {N : Nat} (hH : ∀ b r n, H b r = some n → (0 ≤ b ∧ b < N) ∧ n.2.1.length ≤ 9) : ∀ (k : Nat) (t : TreeS) (block : Int) (low high : ByteArray), Sound N t → Sound N (belowS H k t block low high)
 | 0, t, block, low, high, h => h
 | k + 1, t, block, low, high, h => by
  unfold belowS
  split
  ·
   exact h
  ·
   rename_i hb
   split
   ·
    exact h
   ·
    rename_i n hn
    obtain ⟨hr, h9⟩ := hH _ _ _ hn
    have h1 : Sound N (t.node block low high n) := by
     refine ⟨?_, fun b hb' => ?_, ?_⟩
     ·
      show (t.blocks ++ [block]).Nodup
      rw [List.nodup_append]
      refine ⟨h.1, by simp, fun a ha b hb' e => ?_⟩
      simp at hb'
      subst hb'
      subst e
      exact hb (by rw [List.contains_iff_mem.2 ha]; rfl)
     ·
      have hb2 : b ∈ t.blocks ++ [block] := hb'
      rcases List.mem_append.1 hb2 with hb3 | hb3
      ·
       exact h.2.1 b hb3
      ·
       simp at hb3; subst hb3; exact hr
     ·
      have h2 := h.2.2
      unfold TreeS.node
      cases n.1 with
      | true => simp only [if_true, List.length_append, List.length_zip, List.length_cons, List.length_nil]; omega
      | false => simp only [Bool.false_eq_true, if_false, List.length_append, List.length_cons, List.length_nil]; omega
    split
    ·
     exact h
    ·
     split
     ·
      exact h1
     ·
      have fold : ∀ (l : List (Int × ByteArray × ByteArray)) (t0 : TreeS), Sound N t0 → Sound N (l.foldl (fun t x => if t.bad then t else belowS H k t x.1 x.2.1 x.2.2) t0) := by
       intro l
       induction l with
       | nil => exact fun t0 h0 => h0
       | cons x l ih =>
        intro t0 h0
        rw [List.foldl_cons]
        refine ih _ ?_
        split
        ·
         exact h0
        ·
         exact sound_below hH k t0 _ _ _ h0
      exact fold _ _ h1
theorem pairs_all {H : Int → Bool → Option NodeS} {P : ByteArray × ByteArray → Prop} (hH : ∀ b r (n : NodeS), H b r = some n → n.1 = true → ∀ q ∈ n.2.1.zip n.2.2.1, P q) : ∀ (k : Nat) (t : TreeS) (block : Int) (low high : ByteArray), (∀ q ∈ t.pairs, P q) → ∀ q ∈ (belowS H k t block low high).pairs, P q
 | 0, t, block, low, high, h => h
 | k + 1, t, block, low, high, h => by
  unfold belowS
  split
  ·
   exact h
  ·
   split
   ·
    exact h
   ·
    rename_i n hn
    have h1 : ∀ q ∈ (t.node block low high n).pairs, P q := by
     intro q hq
     unfold TreeS.node at hq
     cases hl : n.1 with
     | true =>
      rw [hl] at hq
      rcases List.mem_append.1 hq with h2 | h2
      ·
       exact h q h2
      ·
       exact hH _ _ _ hn hl q h2
     | false => rw [hl] at hq; exact h q hq
    split
    ·
     exact h
    ·
     split
     ·
      exact h1
     ·
      have fold : ∀ (l : List (Int × ByteArray × ByteArray)) (t0 : TreeS), (∀ q ∈ t0.pairs, P q) → ∀ q ∈ (l.foldl (fun t x => if t.bad then t else belowS H k t x.1 x.2.1 x.2.2) t0).pairs, P q := by
       intro l
       induction l with
       | nil => exact fun t0 h0 => h0
       | cons x l ih =>
        intro t0 h0
        rw [List.foldl_cons]
        refine ih _ ?_
        split
        ·
         exact h0
        ·
         exact pairs_all hH k t0 _ _ _ h0
      exact fold _ _ h1
theorem getP_behind {A B : List (ByteArray × ByteArray)} {key : ByteArray} (h : ∀ q ∈ A, q.1 ≠ key) : getP (A ++ B) key = getP B key := by
 induction A with
 | nil => rfl
 | cons q A ih =>
  rw [List.cons_append, getP, if_neg (h q (by simp))]
  exact ih fun q' hq => h q' (by simp [hq])
theorem getP_ahead {A B : List (ByteArray × ByteArray)} {key : ByteArray} (h : ∀ q ∈ B, q.1 ≠ key) : getP (A ++ B) key = getP A key := by
 induction A with
 | nil => rw [List.nil_append]; exact getP_none h
 | cons q A ih =>
  rw [List.cons_append, getP, getP]
  split
  ·
   rfl
  ·
   exact ih
theorem kidN_lt {ks : List ByteArray} {key : ByteArray} (hr : risingK ks = true) {j : Nat} {x : ByteArray} (hx : ks[j]? = some x) (h : j < kidN ks key) : ltB key x = false := by
 rw [kidN_find hr] at h
 by_cases h1 : j < findN key ks
 ·
  exact ltB_asymm (findN_ahead hx h1)
 ·
  split at h
  ·
   rename_i hi
   have hj : j = findN key ks := by omega
   have := isN_iff.1 hi
   rw [← hj, hx] at this
   cases this
   exact ltB_irrefl _
  ·
   omega
theorem kidN_ge {ks : List ByteArray} {key : ByteArray} (hr : risingK ks = true) {j : Nat} {x : ByteArray} (hx : ks[j]? = some x) (h : kidN ks key ≤ j) : ltB key x = true := by
 rw [kidN_find hr] at h
 split at h
 ·
  rename_i hi
  exact rising_iff.1 hr (findN key ks) j key x (by omega) (isN_iff.1 hi) hx
 ·
  rename_i hi
  have h1 := findN_behind hr hx (by omega : findN key ks ≤ j)
  cases hh : ltB key x with
  | true => rfl
  | false =>
   have e := ltB_total hh h1
   subst e
   exact absurd (isN_iff.2 (by rw [findN_there hr hx]; exact hx)) hi
theorem kidN_le (ks : List ByteArray) (key : ByteArray) : kidN ks key ≤ ks.length := by unfold kidN; exact List.countP_le_length
theorem leaf_get {ks vs : List ByteArray} (hr : risingK ks = true) (hl : vs.length = ks.length) (key : ByteArray) : getP (ks.zip vs) key = if isN ks key = true then (vs.getD (findN key ks) ⟨#[]⟩, 0) else (⟨#[]⟩, 80) := by
 have hm : (ks.zip vs).map Prod.fst = ks := List.map_fst_zip (by omega)
 have hR : Rising (ks.zip vs) := by
  have := rising_pair hr
  rw [← hm, List.pairwise_map] at this
  exact this
 split
 ·
  rename_i hi
  have h1 := isN_iff.1 hi
  have h2 := (List.getElem?_eq_some_iff.1 h1).1
  have h3 : vs[findN key ks]? = some (vs.getD (findN key ks) ⟨#[]⟩) := by rw [List.getD_eq_getElem?_getD, List.getElem?_eq_getElem (by omega)]; rfl
  have h4 : (ks.zip vs)[findN key ks]? = some (key, vs.getD (findN key ks) ⟨#[]⟩) := by rw [List.getElem?_zip_eq_some]; exact ⟨h1, h3⟩
  exact get_at_ hR h4
 ·
  rename_i hi
  refine getP_none fun q hq e => hi ?_
  obtain ⟨j, hj⟩ := List.mem_iff_getElem?.1 hq
  rw [List.getElem?_zip_eq_some] at hj
  rw [e] at hj
  exact isN_iff.2 (by rw [findN_there hr hj.1]; exact hj.1)
theorem inner_get {H : Int → Bool → Option NodeS} (hH : ∀ b r (n : NodeS), H b r = some n → risingK n.2.1 = true ∧ (∀ x ∈ n.2.1, keyIn x) ∧ (n.1 = true → n.2.2.1.length = n.2.1.length) ∧ (n.1 = false → n.2.2.2.length = n.2.1.length + 1))
  {k : Nat} {low high : ByteArray} {ks : List ByteArray} {cs : List Int} {Qs : List (List (ByteArray × ByteArray))} (hr : risingK ks = true) (hk : ∀ x ∈ ks, keyIn x) (hc : cs.length = ks.length + 1) (hl : Qs.length = cs.length)
  (hq : ∀ (i : Nat) (b : Int) (Q : List (ByteArray × ByteArray)), cs[i]? = some b → Qs[i]? = some Q → Subtree H k b (kidFrom low ks i) (kidTo high ks i) Q) (key : ByteArray) :
  ∃ b Q, cs[kidN ks key]? = some b ∧ Qs[kidN ks key]? = some Q ∧ getP Qs.flatten key = getP Q key := by
 have hi := kidN_le ks key
 have h1 : kidN ks key < cs.length := by omega
 have h2 : kidN ks key < Qs.length := by omega
 refine ⟨_, _, List.getElem?_eq_getElem h1, List.getElem?_eq_getElem h2, ?_⟩
 have hsplit : Qs = Qs.take (kidN ks key) ++ Qs[kidN ks key] :: Qs.drop (kidN ks key + 1) := by rw [← List.drop_eq_getElem_cons h2, List.take_append_drop]
 have e : Qs.flatten = (Qs.take (kidN ks key)).flatten ++ (Qs[kidN ks key] ++ (Qs.drop (kidN ks key + 1)).flatten) := by
  conv => lhs; rw [hsplit]
  rw [List.flatten_append, List.flatten_cons]
 rw [e, getP_behind, getP_ahead]
 ·
  intro q hq' e2
  obtain ⟨Q, hQ, hqQ⟩ := List.mem_flatten.1 hq'
  obtain ⟨j, hj⟩ := List.mem_iff_getElem?.1 hQ
  rw [List.getElem?_drop] at hj
  have hjl := (List.getElem?_eq_some_iff.1 hj).1
  have hjk : kidN ks key + j < ks.length := by omega
  have hs := (sub_rising hH (hq _ _ Q (List.getElem?_eq_getElem (by omega : kidN ks key + 1 + j < cs.length)) hj)).2 q hqQ
  have hw := within_low hs.1
  have hf : kidFrom low ks (kidN ks key + 1 + j) = ks[kidN ks key + j] := by
   unfold kidFrom
   rw [if_neg (by omega), show kidN ks key + 1 + j - 1 = kidN ks key + j by omega, List.getD_eq_getElem?_getD, List.getElem?_eq_getElem hjk]
   rfl
  rw [hf, e2, kidN_ge hr (List.getElem?_eq_getElem hjk) (by omega)] at hw
  cases hw
 ·
  intro q hq' e2
  obtain ⟨Q, hQ, hqQ⟩ := List.mem_flatten.1 hq'
  obtain ⟨j, hj⟩ := List.mem_iff_getElem?.1 hQ
  have hjl := (List.getElem?_eq_some_iff.1 hj).1
  rw [List.length_take] at hjl
  have hj' : Qs[j]? = some Q := by rw [List.getElem?_take, if_pos (by omega)] at hj; exact hj
  have hjk : j < ks.length := by omega
  have hs := (sub_rising hH (hq j _ Q (List.getElem?_eq_getElem (by omega : j < cs.length)) hj')).2 q hqQ
  have ht : kidTo high ks j = ks[j] := by
   unfold kidTo
   rw [if_pos hjk, List.getD_eq_getElem?_getD, List.getElem?_eq_getElem hjk]
   rfl
  have hw := hs.1
  rw [ht] at hw
  have h3 : ltB q.1 ks[j] = true := (within_high hw).resolve_left (by have := (hk _ (List.getElem_mem hjk)).1; omega)
  rw [e2, kidN_lt hr (List.getElem?_eq_getElem hjk) (by omega)] at h3
  cases h3
def Holding (H : Int → Bool → Option NodeS) : Prop :=
 ∀ b r (n : NodeS), H b r = some n → risingK n.2.1 = true ∧ (∀ x ∈ n.2.1, keyIn x) ∧ (n.1 = true → n.2.2.1.length = n.2.1.length) ∧ (n.1 = false → n.2.2.2.length = n.2.1.length + 1)
def withinK (ks : List ByteArray) (low high : ByteArray) : Bool :=
 !ks.isEmpty && (!ltB (ks.getD 0 ⟨#[]⟩) low && (decide (high.size = 0) || ltB (ks.getD (ks.length - 1) ⟨#[]⟩) high))
theorem withinK_iff {ks : List ByteArray} {low high : ByteArray} (hr : risingK ks = true) : withinK ks low high = true ↔ ks ≠ [] ∧ ∀ x ∈ ks, withinS x low high = true := by
 have hR := rising_iff.1 hr
 cases ks with
 | nil => simp [withinK]
 | cons k ks =>
  have h0 : (k :: ks)[0]? = some k := rfl
  have hlt : (k :: ks).length - 1 < (k :: ks).length := by simp
  obtain ⟨z, hz⟩ : ∃ z, (k :: ks)[(k :: ks).length - 1]? = some z := ⟨_, List.getElem?_eq_getElem hlt⟩
  have hd : (k :: ks).getD ((k :: ks).length - 1) ⟨#[]⟩ = z := by rw [List.getD_eq_getElem?_getD, hz]; rfl
  unfold withinK
  rw [hd]
  simp only [List.isEmpty_cons, Bool.not_false, Bool.true_and, List.getD_cons_zero, Bool.and_eq_true, Bool.or_eq_true, decide_eq_true_eq, ne_eq, reduceCtorEq, not_false_eq_true, true_and, Bool.not_eq_true']
  constructor
  ·
   rintro ⟨h1, h2⟩ x hx
   obtain ⟨i, hi⟩ := List.mem_iff_getElem?.1 hx
   have hil := (List.getElem?_eq_some_iff.1 hi).1
   refine within_of ?_ ?_
   ·
    by_cases e : i = 0
    ·
     subst e; rw [h0] at hi; cases hi; exact h1
    ·
     exact not_below (ltB_asymm (hR 0 i _ _ (by omega) h0 hi)) h1
   ·
    rcases h2 with h2 | h2
    ·
     exact .inl h2
    ·
     by_cases e : i = (k :: ks).length - 1
     ·
      subst e; rw [hz] at hi; cases hi; exact .inr h2
     ·
      exact .inr (ltB_trans (hR i _ _ _ (by omega) hi hz) h2)
  ·
   intro h
   have h1 := h k (by simp)
   have h2 := h z (List.mem_of_getElem? hz)
   exact ⟨within_low h1, within_high h2⟩
def visitS (H : Int → Bool → Option NodeS) (lv : Int) (k : Nat) (block : Int) (low high : ByteArray) : Option NodeS :=
 match k with
 | 0 => none
 | k + 1 => match H block (decide (k = 7)) with
  | none => none
  | some n => if withinK n.2.1 low high = true ∧ (n.1 = true → lv = 0 ∨ lv = 8 - (k : Int)) then some n else none
theorem visitS_some {H : Int → Bool → Option NodeS} {lv : Int} {k : Nat} {block : Int} {low high : ByteArray} {n : NodeS} (h : visitS H lv (k + 1) block low high = some n) : H block (decide (k = 7)) = some n ∧ withinK n.2.1 low high = true ∧ (n.1 = true → lv = 0 ∨ lv = 8 - (k : Int)) := by
 unfold visitS at h
 simp only at h
 split at h
 ·
  cases h
 ·
  rename_i n' hn
  split at h
  ·
   rename_i hh; cases h; exact ⟨hn, hh⟩
  ·
   cases h
theorem visitS_of {H : Int → Bool → Option NodeS} {lv : Int} {k : Nat} {block : Int} {low high : ByteArray} {n : NodeS} (h : H block (decide (k = 7)) = some n) (hw : withinK n.2.1 low high = true) (hl : n.1 = true → lv = 0 ∨ lv = 8 - (k : Int)) : visitS H lv (k + 1) block low high = some n := by
 unfold visitS
 simp only [h]
 rw [if_pos ⟨hw, hl⟩]
def findS (H : Int → Bool → Option NodeS) (key : ByteArray) : Nat → Int → ByteArray → ByteArray → ByteArray × Int
 | 0, _, _, _ => (⟨#[]⟩, 81)
 | k + 1, block, low, high => match visitS H 0 (k + 1) block low high with
  | none => (⟨#[]⟩, 81)
  | some n => if n.1 = true then getP (n.2.1.zip n.2.2.1) key else findS H key k (n.2.2.2.getD (kidN n.2.1 key) 0) (kidFrom low n.2.1 (kidN n.2.1 key)) (kidTo high n.2.1 (kidN n.2.1 key))
theorem getP_ends (ps : List (ByteArray × ByteArray)) (key : ByteArray) : (getP ps key).2 = 0 ∨ (getP ps key).1 = ⟨#[]⟩ ∧ ((getP ps key).2 = 80 ∨ (getP ps key).2 = 81) := by
 induction ps with
 | nil => exact .inr ⟨rfl, .inl rfl⟩
 | cons p ps ih =>
  rw [getP]
  split
  ·
   exact .inl rfl
  ·
   exact ih
theorem findS_ends (H : Int → Bool → Option NodeS) (key : ByteArray) : ∀ (k : Nat) (block : Int) (low high : ByteArray), (findS H key k block low high).2 = 0 ∨ (findS H key k block low high).1 = ⟨#[]⟩ ∧ ((findS H key k block low high).2 = 80 ∨ (findS H key k block low high).2 = 81)
 | 0, _, _, _ => .inr ⟨rfl, .inr rfl⟩
 | k + 1, block, low, high => by
  unfold findS
  split
  ·
   exact .inr ⟨rfl, .inr rfl⟩
  ·
   split
   ·
    exact getP_ends _ _
   ·
    exact findS_ends H key k _ _ _
def Keyed (H : Int → Bool → Option NodeS) : Prop := ∀ b r (n : NodeS), H b r = some n → n.1 = false → n.2.1 ≠ []
theorem findS_sub {H : Int → Bool → Option NodeS} (hH : Holding H) (hI : Keyed H) (key : ByteArray) {k : Nat} {block : Int} {low high : ByteArray} {Q : List (ByteArray × ByteArray)} (h : Subtree H k block low high Q) : findS H key k block low high = getP Q key := by
 induction h with
 | @leaf k block low high ks vs cs h hne hw =>
  obtain ⟨h1, _, _, _⟩ := hH _ _ _ h
  rw [findS, visitS_of h ((withinK_iff h1).2 ⟨hne, hw⟩) (fun _ => .inl rfl)]
  simp
 | @inner k block low high ks vs cs Qs h hw hl hq ih =>
  obtain ⟨h1, h2, _, h4⟩ := hH _ _ _ h
  replace h4 : cs.length = ks.length + 1 := h4 rfl
  replace h1 : risingK ks = true := h1
  have hne : ks ≠ [] := hI _ _ _ h rfl
  obtain ⟨b, Q, hb, hQ, e⟩ := inner_get hH h1 h2 h4 hl hq key
  rw [e, ← ih _ b Q hb hQ]
  rw [findS, visitS_of h ((withinK_iff h1).2 ⟨hne, hw⟩) (fun e => Bool.noConfusion e)]
  simp only [Bool.false_eq_true, if_false]
  rw [List.getD_eq_getElem?_getD, hb]
  rfl
def withP : List (ByteArray × ByteArray) → ByteArray → ByteArray → List (ByteArray × ByteArray)
 | [], k, v => [(k, v)]
 | p :: ps, k, v => if ltB p.1 k = true then p :: withP ps k v else (k, v) :: (p :: ps).filter (fun q => decide (q.1 ≠ k))
def withoutP (ps : List (ByteArray × ByteArray)) (k : ByteArray) : List (ByteArray × ByteArray) := ps.filter (fun q => decide (q.1 ≠ k))
theorem lt_ne {x y : ByteArray} (h : ltB x y = true) : x ≠ y := fun e => by rw [e, ltB_irrefl] at h; cases h
theorem mem_with {ps : List (ByteArray × ByteArray)} {k v : ByteArray} {q : ByteArray × ByteArray} : q ∈ withP ps k v ↔ q = (k, v) ∨ (q ∈ ps ∧ q.1 ≠ k) := by
 induction ps with
 | nil => simp [withP]
 | cons p ps ih =>
  rw [withP]
  split
  ·
   rename_i h
   rw [List.mem_cons, ih, List.mem_cons]
   constructor
   ·
    rintro (rfl | h1 | h1)
    ·
     exact .inr ⟨.inl rfl, lt_ne h⟩
    ·
     exact .inl h1
    ·
     exact .inr ⟨.inr h1.1, h1.2⟩
   ·
    rintro (h1 | ⟨rfl | h1, h2⟩)
    ·
     exact .inr (.inl h1)
    ·
     exact .inl rfl
    ·
     exact .inr (.inr ⟨h1, h2⟩)
  ·
   rw [List.mem_cons, List.mem_filter, decide_eq_true_eq]
theorem without_rising {ps : List (ByteArray × ByteArray)} (h : Rising ps) (k : ByteArray) : Rising (withoutP ps k) := List.Pairwise.filter _ h
theorem with_rising {ps : List (ByteArray × ByteArray)} (h : Rising ps) (k v : ByteArray) : Rising (withP ps k v) := by
 induction ps with
 | nil => exact List.pairwise_singleton _ _
 | cons p ps ih =>
  obtain ⟨h1, h2⟩ := List.pairwise_cons.1 h
  rw [withP]
  split
  ·
   rename_i hlt
   refine List.pairwise_cons.2 ⟨fun q hq => ?_, ih h2⟩
   rcases mem_with.1 hq with rfl | ⟨hq, _⟩
   ·
    exact hlt
   ·
    exact h1 q hq
  ·
   rename_i hge
   refine List.pairwise_cons.2 ⟨fun q hq => ?_, without_rising h k⟩
   obtain ⟨hq, hne⟩ := List.mem_filter.1 hq
   rw [decide_eq_true_eq] at hne
   have hge' : ltB p.1 k = false := by simpa using hge
   have hqk : ltB q.1 k = false := by
    rcases List.mem_cons.1 hq with rfl | hq
    ·
     exact hge'
    ·
     cases hh : ltB q.1 k with
     | false => rfl
     | true => rw [ltB_trans (h1 q hq) hh] at hge'; cases hge'
   cases hh : ltB k q.1 with
   | true => rfl
   | false => exact absurd (ltB_total hqk hh) hne
abbrev Sub := Int → ByteArray → ByteArray → List (ByteArray × ByteArray) → List Int → Prop
inductive Chain (P : Sub) : ByteArray → List ByteArray → List Int → ByteArray → List (ByteArray × ByteArray) → List Int → Prop
 | one {low high : ByteArray} {b : Int} {Q : List (ByteArray × ByteArray)} {B : List Int} (h : P b low high Q B) : Chain P low [] [b] high Q B
 | cons {low m high : ByteArray} {b : Int} {ks : List ByteArray} {cs : List Int} {Q Q' : List (ByteArray × ByteArray)} {B B' : List Int} (h : P b low m Q B) (t : Chain P m ks cs high Q' B') : Chain P low (m :: ks) (b :: cs) high (Q ++ Q') (B ++ B')
theorem Chain.length {P : Sub} {low high : ByteArray} {ks : List ByteArray} {cs : List Int} {Q : List (ByteArray × ByteArray)} {B : List Int} (h : Chain P low ks cs high Q B) : cs.length = ks.length + 1 := by
 induction h with
 | one h => rfl
 | cons h t ih => simp [ih]
theorem Chain.mono {P P' : Sub} {low high : ByteArray} {ks : List ByteArray} {cs : List Int} {Q : List (ByteArray × ByteArray)} {B : List Int} (h : Chain P low ks cs high Q B) (hp : ∀ b l u Q' B', (∀ x ∈ B', x ∈ B) → P b l u Q' B' → P' b l u Q' B') : Chain P' low ks cs high Q B := by
 induction h with
 | one h => exact .one (hp _ _ _ _ _ (fun x hx => hx) h)
 | cons h t ih => exact .cons (hp _ _ _ _ _ (fun x hx => by simp [hx]) h) (ih fun b l u Q' B' hb => hp b l u Q' B' fun x hx => by simp [hb x hx])
theorem Chain.cut {P : Sub} {low high m : ByteArray} {ks1 ks2 : List ByteArray} {cs : List Int} {Q : List (ByteArray × ByteArray)} {B : List Int} (h : Chain P low (ks1 ++ m :: ks2) cs high Q B) :
  ∃ Q1 Q2 B1 B2, Chain P low ks1 (cs.take (ks1.length + 1)) m Q1 B1 ∧ Chain P m ks2 (cs.drop (ks1.length + 1)) high Q2 B2 ∧ Q = Q1 ++ Q2 ∧ B = B1 ++ B2 := by
 induction ks1 generalizing low cs Q B with
 | nil =>
  cases h with
  | cons h t => exact ⟨_, _, _, _, by simpa using Chain.one h, by simpa using t, rfl, rfl⟩
 | cons k ks1 ih =>
  cases h with
  | cons h t =>
   obtain ⟨Q1, Q2, B1, B2, c1, c2, e1, e2⟩ := ih t
   subst e1 e2
   exact ⟨_, _, _, _, by simpa using Chain.cons h c1, by simpa using c2, by rw [List.append_assoc], by rw [List.append_assoc]⟩
def Body (P : Sub) (ht : Nat) (n : NodeS) (low high : ByteArray) (Q : List (ByteArray × ByteArray)) (B : List Int) : Prop :=
 (n.1 = true ∧ ht = 0 ∧ n.2.1 ≠ [] ∧ Q = n.2.1.zip n.2.2.1 ∧ B = []) ∨ (n.1 = false ∧ ht ≠ 0 ∧ Chain P low n.2.1 n.2.2.2 high Q B)
def TreeOf (H : Int → Bool → Option NodeS) : Nat → Bool → Sub
 | 0, _, _, _, _, _, _ => False
 | ht + 1, r, block, low, high, Q, B => ∃ n C, H block r = some n ∧ (∀ x ∈ n.2.1, withinS x low high = true) ∧ B = block :: C ∧ Body (TreeOf H ht false) ht n low high Q C
theorem TreeOf.mono {H H' : Int → Bool → Option NodeS} : ∀ {ht : Nat} {r : Bool} {block : Int} {low high : ByteArray} {Q : List (ByteArray × ByteArray)} {B : List Int}, TreeOf H ht r block low high Q B → (∀ b ∈ B, ∀ r, H' b r = H b r) → TreeOf H' ht r block low high Q B
 | 0, _, _, _, _, _, _, h, _ => h
 | ht + 1, r, block, low, high, Q, B, ⟨n, C, h1, h2, h3, h4⟩, hh => by
  refine ⟨n, C, by rw [hh block (by rw [h3]; simp)]; exact h1, h2, h3, ?_⟩
  rcases h4 with h4 | ⟨a, b, c⟩
  ·
   exact .inl h4
  ·
   exact .inr ⟨a, b, c.mono fun b l u Q' B' hb hx => hx.mono fun y hy => hh y (by rw [h3]; simp [hb y hy])⟩
theorem Body.mono {H H' : Int → Bool → Option NodeS} {ht : Nat} {n : NodeS} {low high : ByteArray} {Q : List (ByteArray × ByteArray)} {B : List Int} (h : Body (TreeOf H ht false) ht n low high Q B) (hh : ∀ b ∈ B, ∀ r, H' b r = H b r) : Body (TreeOf H' ht false) ht n low high Q B := by
 rcases h with h | ⟨a, b, c⟩
 ·
  exact .inl h
 ·
  exact .inr ⟨a, b, c.mono fun b l u Q' B' hb hx => hx.mono fun y hy => hh y (hb y hy)⟩
theorem kidsT_one (low high : ByteArray) (b : Int) : kidsT low high [] [b] = [(b, low, high)] := rfl
theorem kidsT_cons (low high m : ByteArray) (ks : List ByteArray) (b : Int) (cs : List Int) : kidsT low high (m :: ks) (b :: cs) = (b, low, m) :: kidsT m high ks cs := by
 unfold kidsT
 rw [List.mapIdx_cons]
 congr 1
 congr 1
 funext i x
 have kf : kidFrom low (m :: ks) (i + 1) = kidFrom m ks i := by
  unfold kidFrom
  cases i with
  | zero => rfl
  | succ i => rfl
 have kt : kidTo high (m :: ks) (i + 1) = kidTo high ks i := by
  unfold kidTo
  simp
 rw [kf, kt]
theorem within_any {ks : List ByteArray} {low high : ByteArray} (h : ∀ x ∈ ks, withinS x low high = true) : (ks.any fun k => !withinS k low high) = false := by
 rw [List.any_eq_false]
 intro x hx
 rw [h x hx]; decide
theorem tree_below {H : Int → Bool → Option NodeS} : ∀ (ht : Nat) (k : Nat) (t : TreeS) (block : Int) (low high : ByteArray) (Q : List (ByteArray × ByteArray)) (B : List Int), ht ≤ k → k ≤ 8 → TreeOf H ht (decide (k = 8)) block low high Q B → t.bad = false → (t.height = 0 ∨ t.height = 8 - (k : Int) + ht) → B.Nodup → (∀ b ∈ B, b ∉ t.blocks) →
  belowS H k t block low high = ⟨t.pairs ++ Q, t.blocks ++ B, 8 - (k : Int) + ht, false⟩
 | 0, _, _, _, _, _, _, _, _, _, h, _, _, _, _ => h.elim
 | ht + 1, 0, _, _, _, _, _, _, hk, _, _, _, _, _, _ => by omega
 | ht + 1, k + 1, t, block, low, high, Q, B, hk, h8, ⟨n, C, h1, h2, h3, h4⟩, hb, hh, hn, hd => by
  have hr : decide (k + 1 = 8) = decide (k = 7) := decide_eq_decide.2 (by omega)
  rw [hr] at h1
  subst h3
  have hblock : t.blocks.contains block = false := by
   have h5 := hd block (by simp)
   cases hc : t.blocks.contains block with
   | false => rfl
   | true => exact absurd (List.contains_iff_mem.1 hc) h5
  rw [belowS, if_neg (by rw [hblock, hb]; decide), h1]
  obtain ⟨l, ks, vs, cs⟩ := n
  rcases h4 with ⟨a, b, c, d, e⟩ | ⟨a, b, c⟩
  ·
   simp only at a b c d e h2 ⊢
   subst a b d e
   have h3 : ks.isEmpty = false := by cases ks with | nil => exact absurd rfl c | cons _ _ => rfl
   simp only [h3, Bool.and_false, Bool.false_eq_true, if_false, if_true]
   unfold TreeS.leaf TreeS.node
   simp only [if_true]
   rw [within_any h2, Bool.false_or]
   have h6 : (decide (t.height ≠ 0) && decide (t.height ≠ 8 - (k : Int))) = false := by
    rcases hh with hh | hh
    ·
     rw [hh]; rfl
    ·
     rw [hh]
     have : decide (8 - ((k + 1 : Nat) : Int) + ((0 + 1 : Nat) : Int) ≠ 8 - (k : Int)) = false := decide_eq_false (by omega)
     rw [this, Bool.and_false]
   rw [h6]
   congr 1
   omega
  ·
   simp only at a c h2 ⊢
   subst a
   simp only [Bool.false_and, Bool.false_eq_true, if_false]
   rw [List.nodup_cons] at hn
   have h0 : (t.node block low high (false, ks, vs, cs)) = ⟨t.pairs, t.blocks ++ [block], t.height, false⟩ := by
    unfold TreeS.node
    simp only [Bool.false_eq_true, if_false]
    rw [within_any h2]
   rw [h0]
   have fold : ∀ {low high : ByteArray} {ks : List ByteArray} {cs : List Int} {Q : List (ByteArray × ByteArray)} {B : List Int}, Chain (TreeOf H ht false) low ks cs high Q B → ∀ t0 : TreeS, t0.bad = false → (t0.height = 0 ∨ t0.height = 8 - (k : Int) + ht) → B.Nodup → (∀ b ∈ B, b ∉ t0.blocks) →
     (kidsT low high ks cs).foldl (fun t x => if t.bad then t else belowS H k t x.1 x.2.1 x.2.2) t0 = ⟨t0.pairs ++ Q, t0.blocks ++ B, 8 - (k : Int) + ht, false⟩ := by
    intro low high ks cs Q B hc
    have hf : decide (k = 8) = false := decide_eq_false (by omega)
    induction hc with
    | one hx =>
     intro t0 b0 hh0 n0 d0
     rw [kidsT_one, List.foldl_cons, List.foldl_nil, if_neg (by rw [b0]; decide)]
     exact tree_below ht k t0 _ _ _ _ _ (by omega) (by omega) (by rw [hf]; exact hx) b0 hh0 n0 d0
    | cons hx tx ihx =>
     intro t0 b0 hh0 n0 d0
     rw [List.nodup_append] at n0
     rw [kidsT_cons, List.foldl_cons, if_neg (by rw [b0]; decide)]
     have e := tree_below ht k t0 _ _ _ _ _ (by omega) (by omega) (by rw [hf]; exact hx) b0 hh0 n0.1 (fun y hy => d0 y (by simp [hy]))
     simp only
     rw [e]
     refine (ihx _ rfl (.inr rfl) n0.2.1 (fun y hy hm => ?_)).trans ?_
     ·
      rcases List.mem_append.1 hm with hm | hm
      ·
       exact d0 y (by simp [hy]) hm
      ·
       exact n0.2.2 y hm y hy rfl
     ·
      simp only [List.append_assoc]
   have e := fold c ⟨t.pairs, t.blocks ++ [block], t.height, false⟩ rfl (by rcases hh with hh | hh; exact .inl hh; right; rw [hh]; omega) hn.2 (fun y hy hm => by
    rcases List.mem_append.1 hm with hm | hm
    ·
     exact hd y (by simp [hy]) hm
    ·
     simp at hm; subst hm; exact hn.1 hy)
   rw [e]
   simp only [List.append_assoc, List.singleton_append]
   congr 1
   omega
theorem below_tree {H : Int → Bool → Option NodeS} (hH : Holding H) : ∀ (k : Nat) (t : TreeS) (block : Int) (low high : ByteArray), k ≤ 8 → (belowS H k t block low high).bad = false → t.bad = false ∧ ∃ ht Q B, 1 ≤ ht ∧ ht ≤ k ∧ TreeOf H ht (decide (k = 8)) block low high Q B ∧ B.Nodup ∧ (∀ b ∈ B, b ∉ t.blocks) ∧ (t.height = 0 ∨ t.height = 8 - (k : Int) + ht) ∧ belowS H k t block low high = ⟨t.pairs ++ Q, t.blocks ++ B, 8 - (k : Int) + ht, false⟩
 | 0, t, block, low, high, h8, h => by cases h
 | k + 1, t, block, low, high, h8, h => by
  have fold : ∀ (ks : List ByteArray) (cs : List Int) (low : ByteArray) (t0 : TreeS), cs.length = ks.length + 1 → ((kidsT low high ks cs).foldl (fun t x => if t.bad then t else belowS H k t x.1 x.2.1 x.2.2) t0).bad = false → t0.bad = false ∧ ∃ ht Q B, 1 ≤ ht ∧ ht ≤ k ∧ Chain (TreeOf H ht false) low ks cs high Q B ∧ B.Nodup ∧ (∀ b ∈ B, b ∉ t0.blocks) ∧ (t0.height = 0 ∨ t0.height = 8 - (k : Int) + ht) ∧ (kidsT low high ks cs).foldl (fun t x => if t.bad then t else belowS H k t x.1 x.2.1 x.2.2) t0 = ⟨t0.pairs ++ Q, t0.blocks ++ B, 8 - (k : Int) + ht, false⟩ := by
   intro ks
   have hf : decide (k = 8) = false := decide_eq_false (by omega)
   induction ks with
   | nil =>
    intro cs low t0 hl h0
    obtain ⟨b, rfl⟩ : ∃ b, cs = [b] := by
     cases cs with
     | nil => simp at hl
     | cons b cs => cases cs with | nil => exact ⟨b, rfl⟩ | cons _ _ => simp at hl
    rw [kidsT_one, List.foldl_cons, List.foldl_nil] at h0 ⊢
    by_cases hb : t0.bad = true
    ·
     rw [if_pos hb, hb] at h0; cases h0
    ·
     rw [if_neg hb] at h0 ⊢
     obtain ⟨g1, ht, Q, B, g2, g3, g4, g5, g6, g7, g8⟩ := below_tree hH k t0 b low high (by omega) h0
     rw [hf] at g4
     exact ⟨g1, ht, Q, B, g2, g3, .one g4, g5, g6, g7, g8⟩
   | cons m ks ih =>
    intro cs low t0 hl h0
    cases cs with
    | nil => simp at hl
    | cons b cs =>
     rw [kidsT_cons, List.foldl_cons] at h0 ⊢
     obtain ⟨a1, ht, Q, B, a2, a3, a4, a5, a6, a7, a8⟩ := ih cs m _ (by simpa using hl) h0
     by_cases hb : t0.bad = true
     ·
      rw [if_pos hb, hb] at a1; cases a1
     ·
      rw [if_neg hb] at a1 a6 a7 a8
      rw [if_neg hb]
      obtain ⟨g1, ht', Q', B', g2, g3, g4, g5, g6, g7, g8⟩ := below_tree hH k t0 b low m (by omega) a1
      rw [hf] at g4
      simp only at a8 a6 a7 ⊢
      rw [g8] at a6 a7
      simp only at a6 a7
      have e : ht' = ht := by
       rcases a7 with a7 | a7
       ·
        omega
       ·
        omega
      subst e
      refine ⟨g1, ht', Q' ++ Q, B' ++ B, g2, g3, .cons g4 a4, ?_, fun y hy => ?_, g7, ?_⟩
      ·
       rw [List.nodup_append]
       exact ⟨g5, a5, fun x hx y hy e => a6 y hy (by rw [← e]; simp [hx])⟩
      ·
       rcases List.mem_append.1 hy with hy | hy
       ·
        exact g6 y hy
       ·
        exact fun hm => a6 y hy (by simp [hm])
      ·
       rw [a8, g8]
       simp only [List.append_assoc]
  rw [belowS] at h ⊢
  have hr : decide (k + 1 = 8) = decide (k = 7) := decide_eq_decide.2 (by omega)
  rw [hr]
  split at h
  ·
   cases h
  ·
   rename_i hb
   rw [if_neg hb]
   have hb' : t.bad = false := by
    cases hh : t.bad with
    | false => rfl
    | true => exact absurd (by rw [hh, Bool.or_true]) hb
   have hbl : block ∉ t.blocks := fun hm => hb (by rw [List.contains_iff_mem.2 hm]; rfl)
   split at h
   ·
    cases h
   ·
    rename_i nd hnd
    obtain ⟨l, ks, vs, cs⟩ := nd
    simp only at h ⊢
    split at h
    ·
     cases h
    ·
     rename_i hem
     rw [if_neg hem]
     cases l with
     | true =>
      simp only [if_true] at h ⊢
      have h2 : ((ks.any fun k => !withinS k low high) || (decide (t.height ≠ 0) && decide (t.height ≠ 8 - (k : Int)))) = false := h
      obtain ⟨h1, h3⟩ := Bool.or_eq_false_iff.1 h2
      refine ⟨hb', 1, ks.zip vs, [block], Nat.le_refl _, by omega, ⟨(true, ks, vs, cs), [], hnd, any_within h1, rfl, .inl ⟨rfl, rfl, fun e => hem (by have e' : ks = [] := e; rw [e']; rfl), rfl, rfl⟩⟩, by simp, by simpa using hbl, ?_, ?_⟩
      ·
       by_cases h4 : t.height = 0
       ·
        exact .inl h4
       ·
        right
        rw [decide_eq_true h4, Bool.true_and] at h3
        have h5 : t.height = 8 - (k : Int) := by simpa using h3
        omega
      ·
       unfold TreeS.leaf TreeS.node
       simp only [if_true]
       rw [h1, h3]
       congr 1
       omega
     | false =>
      simp only [Bool.false_eq_true, if_false] at h ⊢
      have h4 : cs.length = ks.length + 1 := (hH _ _ _ hnd).2.2.2 rfl
      obtain ⟨a1, ht, Q, B, a2, a3, a4, a5, a6, a7, a8⟩ := fold ks cs low _ h4 h
      have h1 : (ks.any fun k => !withinS k low high) = false := a1
      have a6' : ∀ b ∈ B, b ∉ t.blocks ++ [block] := a6
      refine ⟨hb', ht + 1, Q, block :: B, by omega, by omega, ⟨(false, ks, vs, cs), B, hnd, any_within h1, rfl, .inr ⟨rfl, by omega, a4⟩⟩, ?_, fun y hy => ?_, ?_, ?_⟩
      ·
       rw [List.nodup_cons]
       exact ⟨fun hm => a6' _ hm (by simp), a5⟩
      ·
       rcases List.mem_cons.1 hy with rfl | hy
       ·
        exact hbl
       ·
        exact fun hm => a6' y hy (by simp [hm])
      ·
       have a7' : t.height = 0 ∨ t.height = 8 - (k : Int) + ht := a7
       rcases a7' with e | e
       ·
        exact .inl e
       ·
        right; rw [e]; omega
      ·
       rw [a8]
       unfold TreeS.node
       simp only [Bool.false_eq_true, if_false, List.append_assoc, List.singleton_append]
       congr 1
       omega
def Wide (H : Int → Bool → Option NodeS) : Prop := ∀ b r (n : NodeS), H b r = some n → n.1 = false → 2 ≤ n.2.2.2.length ∧ (r = false → 5 ≤ n.2.2.2.length)
def leastB : Nat → Nat
 | 0 => 0
 | h + 1 => 1 + 5 * leastB h
theorem chain_least {P : Sub} {m : Nat} (hP : ∀ b l u Q B, P b l u Q B → m ≤ B.length) {low high : ByteArray} {ks : List ByteArray} {cs : List Int} {Q : List (ByteArray × ByteArray)} {B : List Int} (h : Chain P low ks cs high Q B) : cs.length * m ≤ B.length := by
 induction h with
 | one h => have := hP _ _ _ _ _ h; simpa using this
 | cons h t ih =>
  have := hP _ _ _ _ _ h
  rw [List.length_cons, Nat.succ_mul, List.length_append]
  omega
theorem tree_least {H : Int → Bool → Option NodeS} (hW : Wide H) : ∀ (ht : Nat) (b : Int) (l u : ByteArray) (Q : List (ByteArray × ByteArray)) (B : List Int), TreeOf H ht false b l u Q B → leastB ht ≤ B.length
 | 0, _, _, _, _, _, h => h.elim
 | ht + 1, b, l, u, Q, B, ⟨n, C, h1, h2, h3, h4⟩ => by
  subst h3
  rcases h4 with ⟨a, e, _, _, rfl⟩ | ⟨a, e, c⟩
  ·
   subst e; simp [leastB]
  ·
   have h5 := chain_least (tree_least hW ht) c
   have h6 := (hW _ _ _ h1 a).2 rfl
   have h7 : 5 * leastB ht ≤ n.2.2.2.length * leastB ht := Nat.mul_le_mul_right _ h6
   rw [leastB, List.length_cons]
   omega
theorem root_least {H : Int → Bool → Option NodeS} (hW : Wide H) {ht : Nat} {r : Bool} {b : Int} {l u : ByteArray} {Q : List (ByteArray × ByteArray)} {B : List Int} (h : TreeOf H (ht + 1) r b l u Q B) : 1 + 2 * leastB ht ≤ B.length := by
 obtain ⟨n, C, h1, h2, h3, h4⟩ := h
 subst h3
 rcases h4 with ⟨a, e, _, _, rfl⟩ | ⟨a, e, c⟩
 ·
  subst e; simp [leastB]
 ·
  have h5 := chain_least (tree_least hW ht) c
  have h6 := (hW _ _ _ h1 a).1
  have h7 : 2 * leastB ht ≤ n.2.2.2.length * leastB ht := Nat.mul_le_mul_right _ h6
  rw [List.length_cons]
  omega
theorem leastB_mono : ∀ {m n : Nat}, m ≤ n → leastB m ≤ leastB n
 | 0, _, _ => Nat.zero_le _
 | m + 1, 0, h => by omega
 | m + 1, n + 1, h => by have := leastB_mono (m := m) (n := n) (by omega); rw [leastB, leastB]; omega
theorem TreeOf.sub {H : Int → Bool → Option NodeS} : ∀ (ht k : Nat) (block : Int) (low high : ByteArray) (Q : List (ByteArray × ByteArray)) (B : List Int), ht ≤ k → k ≤ 8 → TreeOf H ht (decide (k = 8)) block low high Q B → B.Nodup → Subtree H k block low high Q := by
 intro ht k block low high Q B hk h8 h hn
 have e := tree_below ht k TreeS.none block low high Q B hk h8 h rfl (.inl rfl) hn (fun b _ hm => by simp [TreeS.none] at hm)
 obtain ⟨_, Q', hs, hp⟩ := below_sub H k TreeS.none block low high (by rw [e])
 rw [e] at hp
 have : Q = Q' := by simpa [TreeS.none] using hp
 rw [this]
 exact hs
end Go.Proofs.YtaecfbfcjaailaaGreat.Plain
namespace Go.Proofs.YtaecfbfcjaailaaGreat
open Go.RowKit Plain
set_option linter.unusedVariables false
structure WoodS where
 base : List Bool
 now : List Bool
 pages : List ByteArray
 root : Int
 gen : Int
def WoodS.none : WoodS := ⟨[], [], [], 0, 0⟩
def WoodS.holds (G : WoodS) : Int → Bool → Option NodeS := holdsS G.now G.pages G.gen
def WoodS.right (G : WoodS) : Bool := rightW G.base G.now G.pages G.root G.gen
def WoodS.tree (G : WoodS) : TreeS := treeS G.now G.pages G.root G.gen
def WoodS.withAlloc (G : WoodS) (b n : List Bool) : WoodS := ⟨b, n, G.pages, G.root, G.gen⟩
def WoodS.withPage (G : WoodS) (i : Nat) (s : ByteArray) : WoodS := ⟨G.base, G.now, G.pages.set i s, G.root, G.gen⟩
def WoodS.withRoot (G : WoodS) (r : Int) : WoodS := ⟨G.base, G.now, G.pages, r, G.gen⟩
def nodeRight (n : NodeS) (r : Bool) : Bool := rightN n.1 n.2.1 n.2.2.1 n.2.2.2 r
def kindN (n : NodeS) : Int := if n.1 = true then 1 else 2
def nodeBytes (n : NodeS) : ByteArray := nodeS n.1 n.2.1 n.2.2.1 n.2.2.2
def nodePage (gen : Int) (n : NodeS) : ByteArray := pageS (kindN n) gen (nodeBytes n)
def writeG (G : WoodS) (block : Int) (n : NodeS) : Int × WoodS := if nodeRight n true = true then (0, G.withPage block.toNat (nodePage G.gen n)) else (81, G)
def layG (G : WoodS) (n : NodeS) : Int × Int × WoodS :=
 if takeE G.base G.now = 0 then (takeK G.base G.now, writeG (G.withAlloc (takeB G.base G.now) (takeNow G.base G.now)) (takeK G.base G.now) n) else (0, takeE G.base G.now, G)
def renewG (G : WoodS) (block : Int) (n : NodeS) : Int × Int × WoodS :=
 if atB G.base block.toNat = false then (block, writeG G block n) else layG (G.withAlloc (giveB G.base G.now [block]) (giveN G.base G.now [block])) n
def cutNA (n : NodeS) : NodeS := (cutL n.1 n.2.1 n.2.2.1 n.2.2.2, cutAK n.1 n.2.1 n.2.2.1 n.2.2.2, cutAV n.1 n.2.1 n.2.2.1 n.2.2.2, cutAC n.1 n.2.1 n.2.2.1 n.2.2.2)
def cutNB (n : NodeS) : NodeS := (cutL n.1 n.2.1 n.2.2.1 n.2.2.2, cutBK n.1 n.2.1 n.2.2.1 n.2.2.2, cutBV n.1 n.2.1 n.2.2.1 n.2.2.2, cutBC n.1 n.2.1 n.2.2.1 n.2.2.2)
def cutNM (n : NodeS) : ByteArray := cutM n.1 n.2.1 n.2.2.1 n.2.2.2
def cutNOk (n : NodeS) : Bool := cutOk n.1 n.2.1 n.2.2.1 n.2.2.2
def replaceG (G : WoodS) (block : Int) (n : NodeS) : Int × (List ByteArray × List Int) × WoodS :=
 if n.2.1.length ≤ 8 then ((renewG G block n).2.1, ([], [(renewG G block n).1]), (renewG G block n).2.2)
 else if cutNOk n = true then
  if (renewG G block (cutNA n)).2.1 = 0 then ((layG (renewG G block (cutNA n)).2.2 (cutNB n)).2.1, ([cutNM n], [(renewG G block (cutNA n)).1, (layG (renewG G block (cutNA n)).2.2 (cutNB n)).1]), (layG (renewG G block (cutNA n)).2.2 (cutNB n)).2.2)
  else ((renewG G block (cutNA n)).2.1, ([], []), (renewG G block (cutNA n)).2.2)
 else (81, ([], []), G)
def plantG (G : WoodS) (n : NodeS) : Int × WoodS := ((layG G n).2.1, (layG G n).2.2.withRoot (layG G n).1)
structure Ok (G : WoodS) : Prop where
 alloc : rightA G.base G.now = true
 len : G.pages.length = G.now.length
 lo : 1 ≤ G.gen
 hi : G.gen ≤ 1099511627776
 room : ∀ s ∈ G.pages, s.size ≤ 4096
def WoodS.has (G : WoodS) (b : Int) : Prop := 0 ≤ b ∧ atB G.now b.toNat = true
def WoodS.counts (G : WoodS) (b : Int) : Prop := 0 ≤ b ∧ atB G.base b.toNat = true
def WoodS.free (G : WoodS) : Nat := howN (freeB G.base G.now) G.now.length
def WoodS.newPage (G : WoodS) (b : Int) : Prop := ∃ s, G.pages[b.toNat]? = some s ∧ readE s = 0 ∧ readG s = G.gen
theorem right_ok {G : WoodS} : G.right = true ↔ Ok G ∧ (G.root = 0 ∨ (10 ≤ G.root ∧ G.root < G.now.length)) := by
 unfold WoodS.right rightW
 simp only [Bool.and_eq_true, Bool.or_eq_true, decide_eq_true_eq, List.all_eq_true]
 constructor
 ·
  rintro ⟨⟨⟨⟨⟨h1, h2⟩, h3⟩, h4⟩, h5⟩, h6⟩
  exact ⟨⟨h1, h2, h3, h4, h5⟩, h6⟩
 ·
  rintro ⟨⟨h1, h2, h3, h4, h5⟩, h6⟩
  exact ⟨⟨⟨⟨⟨h1, h2⟩, h3⟩, h4⟩, h5⟩, h6⟩
theorem atB_lt {l : List Bool} {i : Nat} (h : atB l i = true) : i < l.length := by
 refine Nat.lt_of_not_le fun hn => ?_
 rw [atB_past hn] at h
 cases h
theorem has_lt {G : WoodS} {b : Int} (h : G.has b) : b < G.now.length := by
 have := atB_lt h.2
 have := h.1
 omega
theorem getD_at (l : List Bool) (i : Nat) : l.getD i false = atB l i := by unfold atB; rw [List.getD_eq_getElem?_getD]
theorem holds_has {G : WoodS} {b : Int} {r : Bool} {n : NodeS} (h : G.holds b r = some n) : G.has b ∧ 10 ≤ b ∧ b < G.now.length := by
 unfold WoodS.holds holdsS at h
 split at h
 ·
  rename_i hh
  rw [getD_at] at hh
  exact ⟨⟨by omega, hh.2.2.2⟩, hh.1, hh.2.1⟩
 ·
  cases h
theorem holds_nodeRight {G : WoodS} {b : Int} {r : Bool} {n : NodeS} (h : G.holds b r = some n) : nodeRight n r = true := holds_right h
theorem holds_same {G G' : WoodS} {b : Int} (hg : G'.gen = G.gen) (hl : G'.now.length = G.now.length) (hp : G'.pages.length = G.pages.length) (h : G.has b) (h' : G'.has b) (hs : G'.pages[b.toNat]? = G.pages[b.toNat]?) (r : Bool) : G'.holds b r = G.holds b r := by
 unfold WoodS.holds holdsS
 rw [getD_at, getD_at, h.2, h'.2, hl, hp, hg, List.getD_eq_getElem?_getD, List.getD_eq_getElem?_getD, hs]
structure Turn (G G' : WoodS) (O N : Int → Prop) (c : Nat) : Prop where
 base : G'.base = G.base
 gen : G'.gen = G.gen
 root : G'.root = G.root
 len : G'.now.length = G.now.length
 ok : Ok G'
 now : ∀ b, G'.has b ↔ (G.has b ∧ ¬ O b) ∨ N b
 page : ∀ b, G.has b → ¬ O b → G'.pages[b.toNat]? = G.pages[b.toNat]?
 based : ∀ b, G.counts b → G'.pages[b.toNat]? = G.pages[b.toNat]?
 fresh : ∀ b, N b → O b ∨ (¬ G.has b ∧ ¬ G.counts b)
 gens : ∀ b, N b → (O b ∧ G'.pages[b.toNat]? = G.pages[b.toNat]?) ∨ G'.newPage b
 free : G.free ≤ G'.free + c
theorem Turn.plen {G G' : WoodS} {O N : Int → Prop} {c : Nat} (t : Turn G G' O N c) (h : Ok G) : G'.pages.length = G.pages.length := by rw [t.ok.len, h.len, t.len]
theorem Turn.holds {G G' : WoodS} {O N : Int → Prop} {c : Nat} (t : Turn G G' O N c) (hk : Ok G) {b : Int} (h : G.has b) (ho : ¬ O b) (r : Bool) : G'.holds b r = G.holds b r :=
 holds_same t.gen t.len (t.plen hk) h ((t.now b).2 (.inl ⟨h, ho⟩)) (t.page b h ho) r
theorem newPage_same {G G' : WoodS} {b : Int} (hg : G'.gen = G.gen) (hs : G'.pages[b.toNat]? = G.pages[b.toNat]?) (h : G.newPage b) : G'.newPage b := by
 obtain ⟨s, h1, h2, h3⟩ := h
 exact ⟨s, by rw [hs, h1], h2, by rw [h3, hg]⟩
theorem counts_same {G G' : WoodS} (h : G'.base = G.base) (b : Int) : G'.counts b ↔ G.counts b := by unfold WoodS.counts; rw [h]
theorem Turn.trans {G G1 G2 : WoodS} {O1 N1 O2 N2 : Int → Prop} {c1 c2 : Nat} (s : Turn G G1 O1 N1 c1) (t : Turn G1 G2 O2 N2 c2) (ho : ∀ b, O2 b → G1.has b) : Turn G G2 (fun b => O1 b ∨ O2 b) (fun b => (N1 b ∧ ¬ O2 b) ∨ N2 b) (c1 + c2) := by
 refine ⟨t.base.trans s.base, t.gen.trans s.gen, t.root.trans s.root, t.len.trans s.len, t.ok, fun b => ?_, fun b hb hn => ?_, fun b hb => ?_, fun b hb => ?_, fun b hb => ?_, ?_⟩
 ·
  rw [t.now, s.now]
  constructor
  ·
   rintro (⟨⟨h1, h2⟩ | h1, h3⟩ | h1)
   ·
    exact .inl ⟨h1, fun h => h.elim h2 h3⟩
   ·
    exact .inr (.inl ⟨h1, h3⟩)
   ·
    exact .inr (.inr h1)
  ·
   rintro (⟨h1, h2⟩ | ⟨h1, h2⟩ | h1)
   ·
    exact .inl ⟨.inl ⟨h1, fun h => h2 (.inl h)⟩, fun h => h2 (.inr h)⟩
   ·
    exact .inl ⟨.inr h1, h2⟩
   ·
    exact .inr h1
 ·
  have h1 := (s.now b).2 (.inl ⟨hb, fun h => hn (.inl h)⟩)
  rw [t.page b h1 fun h => hn (.inr h), s.page b hb fun h => hn (.inl h)]
 ·
  rw [t.based b ((counts_same s.base b).2 hb), s.based b hb]
 ·
  rcases hb with ⟨h1, h2⟩ | h1
  ·
   exact (s.fresh b h1).imp .inl id
  ·
   rcases t.fresh b h1 with h2 | ⟨h2, h3⟩
   ·
    exact .inl (.inr h2)
   ·
    rw [s.now] at h2
    by_cases h4 : O1 b
    ·
     exact .inl (.inl h4)
    ·
     exact .inr ⟨fun h5 => h2 (.inl ⟨h5, h4⟩), fun h5 => h3 ((counts_same s.base b).2 h5)⟩
 ·
  rcases hb with ⟨h1, h2⟩ | h1
  ·
   have h3 := t.page b ((s.now b).2 (.inr h1)) h2
   rcases s.gens b h1 with ⟨h4, h5⟩ | h4
   ·
    exact .inl ⟨.inl h4, by rw [h3, h5]⟩
   ·
    exact .inr (newPage_same t.gen h3 h4)
  ·
   rcases t.gens b h1 with ⟨h2, h3⟩ | h2
   ·
    rcases (s.now b).1 (ho b h2) with ⟨h4, h5⟩ | h4
    ·
     exact .inl ⟨.inr h2, by rw [h3, s.page b h4 h5]⟩
    ·
     rcases s.gens b h4 with ⟨h5, h6⟩ | h5
     ·
      exact .inl ⟨.inl h5, by rw [h3, h6]⟩
     ·
      exact .inr (newPage_same t.gen h3 h5)
   ·
    exact .inr h2
 ·
  have := s.free
  have := t.free
  omega
theorem Turn.of {G G' : WoodS} {O N O' N' : Int → Prop} {c c' : Nat} (t : Turn G G' O N c) (ho : ∀ b, O b ↔ O' b) (hn : ∀ b, N b ↔ N' b) (hc : c ≤ c') : Turn G G' O' N' c' := by
 have e1 : O = O' := funext fun b => propext (ho b)
 have e2 : N = N' := funext fun b => propext (hn b)
 subst e1 e2
 exact ⟨t.base, t.gen, t.root, t.len, t.ok, t.now, t.page, t.based, t.fresh, t.gens, by have := t.free; omega⟩
theorem Turn.widen {G G' : WoodS} {O N : Int → Prop} {c : Nat} (t : Turn G G' O N c) (X : Int → Prop) (hx : ∀ b, X b → G.has b ∧ ¬ O b) : Turn G G' (fun b => O b ∨ X b) (fun b => N b ∨ X b) c := by
 refine ⟨t.base, t.gen, t.root, t.len, t.ok, fun b => ?_, fun b hb hn => t.page b hb fun h => hn (.inl h), t.based, fun b hb => ?_, fun b hb => ?_, t.free⟩
 ·
  rw [t.now]
  constructor
  ·
   rintro (⟨h1, h2⟩ | h1)
   ·
    by_cases h3 : X b
    ·
     exact .inr (.inr h3)
    ·
     exact .inl ⟨h1, fun h => h.elim h2 h3⟩
   ·
    exact .inr (.inl h1)
  ·
   rintro (⟨h1, h2⟩ | h1 | h1)
   ·
    exact .inl ⟨h1, fun h => h2 (.inl h)⟩
   ·
    exact .inr h1
   ·
    exact .inl (hx b h1)
 ·
  rcases hb with hb | hb
  ·
   exact (t.fresh b hb).imp .inl id
  ·
   exact .inl (.inr hb)
 ·
  rcases hb with hb | hb
  ·
   exact (t.gens b hb).imp (fun h => ⟨.inl h.1, h.2⟩) id
  ·
   exact .inl ⟨.inr hb, t.page b (hx b hb).1 (hx b hb).2⟩
theorem nodePage_size (gen : Int) (n : NodeS) : (nodePage gen n).size ≤ 4096 := Nat.le_trans (pageS_max _ _ _) (by decide)
theorem nodePage_read {gen : Int} {n : NodeS} (hg : 1 ≤ gen) (hg' : gen ≤ 1099511627776) (h : nodeRight n true = true) : readE (nodePage gen n) = 0 ∧ readK (nodePage gen n) = kindN n ∧ readG (nodePage gen n) = gen ∧ readB (nodePage gen n) = nodeBytes n := by
 have hk : 1 ≤ kindN n ∧ kindN n ≤ 5 := by unfold kindN; split <;> omega
 have hr : rightP (kindN n) gen (nodeBytes n) = true := (rightP_iff _ _ _).2 ⟨hk.1, hk.2, by omega, hg', node_size h⟩
 have := page_back hr 0 (by have := pageS_max (kindN n) gen (nodeBytes n); omega)
 have e : zeros 0 = ByteArray.empty := rfl
 rw [e, ByteArray.append_empty] at this
 exact this
theorem nodePage_holds {gen : Int} {n : NodeS} (hg : 1 ≤ gen) (hg' : gen ≤ 1099511627776) {r : Bool} (h : nodeRight n r = true) : pageN (nodePage gen n) gen r = some n := by
 have ht : nodeRight n true = true := rightN_iff.2 ⟨(rightN_iff.1 h).1, (rightN_iff.1 h).2.1, .inl rfl⟩
 obtain ⟨h1, h2, h3, h4⟩ := nodePage_read hg hg' ht
 have hb : nodeR (kindN n) (nodeBytes n) = .inr n := node_back ht
 have e1 : gE (kindN n) (nodeBytes n) = 0 := by unfold gE; rw [hb]
 have e2 : gN (kindN n) (nodeBytes n) = n := by unfold gN; rw [hb]
 unfold pageN
 rw [h1, h2, h3, h4, e1, e2, if_pos ⟨rfl, Int.le_refl _, rfl, h⟩]
theorem ok_page {G : WoodS} (hk : Ok G) (i : Nat) (n : NodeS) : Ok (G.withPage i (nodePage G.gen n)) := by
 refine ⟨hk.alloc, by show (G.pages.set i _).length = _; rw [List.length_set]; exact hk.len, hk.lo, hk.hi, fun s hs => ?_⟩
 rcases List.mem_or_eq_of_mem_set hs with h | h
 ·
  exact hk.room s h
 ·
  rw [h]; exact nodePage_size _ _
theorem write_is {G : WoodS} {block : Int} {n : NodeS} (hk : Ok G) (hb : G.has block) (h10 : 10 ≤ block) (hc : ¬ G.counts block) (hn : nodeRight n true = true) :
  ∃ G', writeG G block n = (0, G') ∧ Turn G G' (fun b => b = block) (fun b => b = block) 0 ∧ G'.newPage block ∧ ∀ r, nodeRight n r = true → G'.holds block r = some n := by
 have hlt := has_lt hb
 have hp : block.toNat < G.pages.length := by rw [hk.len]; omega
 have hat : (G.withPage block.toNat (nodePage G.gen n)).pages[block.toNat]? = some (nodePage G.gen n) := by
  show (G.pages.set _ _)[_]? = _
  rw [List.getElem?_set_self hp]
 have hnew : (G.withPage block.toNat (nodePage G.gen n)).newPage block := ⟨_, hat, (nodePage_read hk.lo hk.hi hn).1, (nodePage_read hk.lo hk.hi hn).2.2.1⟩
 have other : ∀ b : Int, 0 ≤ b → b ≠ block → (G.withPage block.toNat (nodePage G.gen n)).pages[b.toNat]? = G.pages[b.toNat]? := by
  intro b h0 hne
  show (G.pages.set _ _)[_]? = _
  rw [List.getElem?_set_ne]
  omega
 refine ⟨G.withPage block.toNat (nodePage G.gen n), by unfold writeG; rw [if_pos hn], ⟨rfl, rfl, rfl, rfl, ok_page hk _ _, fun b => ?_, fun b h1 h2 => other b h1.1 h2, fun b h1 => other b h1.1 (fun e => hc (e ▸ h1)), fun b h1 => .inl h1, fun b h1 => .inr (by rw [h1]; exact hnew), Nat.le_refl _⟩, hnew, fun r hr => ?_⟩
 ·
  show G.has b ↔ _
  constructor
  ·
   intro h
   by_cases e : b = block
   ·
    exact .inr e
   ·
    exact .inl ⟨h, e⟩
  ·
   rintro (h | rfl)
   ·
    exact h.1
   ·
    exact hb
 ·
  have h1 : (G.withPage block.toNat (nodePage G.gen n)).pages.length = G.pages.length := List.length_set ..
  unfold WoodS.holds holdsS
  have h2 : G.now.getD block.toNat false = true := by rw [getD_at]; exact hb.2
  rw [if_pos ⟨h10, hlt, by rw [h1, hk.len]; exact hlt, h2⟩, List.getD_eq_getElem?_getD, hat]
  exact nodePage_holds hk.lo hk.hi hr
theorem write_bad {G : WoodS} {block : Int} {n : NodeS} (hn : nodeRight n true = false) : writeG G block n = (81, G) := by unfold writeG; rw [hn]; rfl
theorem lay_is {G : WoodS} {n : NodeS} (hk : Ok G) (hn : nodeRight n true = true) :
  ((layG G n).2.1 = 60 ∧ G.free = 0) ∨ ∃ k G', layG G n = (k, 0, G') ∧ 10 ≤ k ∧ k < G.now.length ∧ ¬ G.has k ∧ ¬ G.counts k ∧ Turn G G' (fun _ => False) (fun b => b = k) 1 ∧ ∀ r, nodeRight n r = true → G'.holds k r = some n := by
 have hl := ((rightA_iff _ _).1 hk.alloc).1
 rcases takeP_spec hl with ⟨e, hno⟩ | ⟨p, e, hp, hf, -⟩
 ·
  left
  have h60 : takeE G.base G.now = 60 := by unfold takeE; rw [if_pos hk.alloc, if_pos e]
  refine ⟨by unfold layG; rw [h60]; rfl, howN_zero.2 hno⟩
 ·
  right
  have h0 : takeE G.base G.now = 0 := by unfold takeE; rw [if_pos hk.alloc, if_neg (by omega)]
  have hK : takeK G.base G.now = p := by unfold takeK; rw [if_pos h0, e]
  have hB : takeB G.base G.now = G.base := by unfold takeB; rw [if_pos h0]
  have hN : takeNow G.base G.now = G.now.set p true := by unfold takeNow; rw [if_pos h0, e, Int.toNat_natCast]
  have h10 := free_ten hk.alloc hf
  obtain ⟨hf1, hf2, hf3⟩ := (freeB_iff _ _ _).1 hf
  obtain ⟨g1, g2, g3⟩ := free_taken hf
  obtain ⟨G1, hG1⟩ : ∃ G1, G1 = G.withAlloc G.base (G.now.set p true) := ⟨_, rfl⟩
  have hk1 : Ok G1 := by rw [hG1]; exact ⟨right_set hk.alloc h10 true, by show G.pages.length = (G.now.set p true).length; rw [List.length_set]; exact hk.len, hk.lo, hk.hi, hk.room⟩
  have has1 : ∀ b, G1.has b ↔ G.has b ∨ b = (p : Int) := by
   intro b
   rw [hG1]
   show (0 ≤ b ∧ atB (G.now.set p true) b.toNat = true) ↔ (0 ≤ b ∧ atB G.now b.toNat = true) ∨ b = (p : Int)
   rw [atB_setB]
   constructor
   ·
    rintro ⟨h1, h2⟩
    split at h2
    ·
     rename_i hh; right; omega
    ·
     exact .inl ⟨h1, h2⟩
   ·
    rintro (⟨h1, h2⟩ | rfl)
    ·
     refine ⟨h1, ?_⟩
     split
     ·
      rfl
     ·
      exact h2
    ·
     exact ⟨by omega, by rw [if_pos ⟨by omega, by omega⟩]⟩
  have hnh : ¬ G.has (p : Int) := fun h => by have := h.2; rw [Int.toNat_natCast, hf2] at this; cases this
  have hnc : ¬ G.counts (p : Int) := fun h => by have := h.2; rw [Int.toNat_natCast, hf3] at this; cases this
  obtain ⟨G', hw, t, hnew, hh⟩ := write_is hk1 ((has1 p).2 (.inr rfl)) (by omega) (fun h => hnc ((counts_same (by rw [hG1]; rfl) _).1 h)) hn
  have b1 : G1.base = G.base := by rw [hG1]; rfl
  have p1 : G1.pages = G.pages := by rw [hG1]; rfl
  have l1 : G1.now.length = G.now.length := by rw [hG1]; exact List.length_set ..
  refine ⟨p, G', by unfold layG; rw [if_pos h0, hK, hB, hN, ← hG1, hw], by omega, by omega, hnh, hnc, ⟨by rw [t.base, b1], by rw [t.gen, hG1]; rfl, by rw [t.root, hG1]; rfl, by rw [t.len, l1], t.ok, fun b => ?_, fun b h1 _ => ?_, fun b h1 => ?_, fun b h1 => ?_, fun b h1 => ?_, ?_⟩, hh⟩
  ·
   rw [t.now, has1]
   constructor
   ·
    rintro (⟨h1 | h1, h2⟩ | h1)
    ·
     exact .inl ⟨h1, id⟩
    ·
     exact .inr h1
    ·
     exact .inr h1
   ·
    rintro (⟨h1, -⟩ | h1)
    ·
     exact .inl ⟨.inl h1, fun e => hnh (e ▸ h1)⟩
    ·
     exact .inr h1
  ·
   rw [t.page b ((has1 b).2 (.inl h1)) (fun e => hnh (e ▸ h1)), p1]
  ·
   rw [t.based b ((counts_same b1 b).2 h1), p1]
  ·
   subst h1; exact .inr ⟨hnh, hnc⟩
  ·
   subst h1; exact .inr hnew
  ·
   have h1 := t.free
   have h2 : G1.free = howN (freeB G.base (G.now.set p true)) G.now.length := by
    unfold WoodS.free
    rw [l1, hG1]
    rfl
   have h3 : G.free = howN (freeB G.base G.now) G.now.length := rfl
   omega
theorem lay_bad {G : WoodS} {n : NodeS} (hk : Ok G) (hn : nodeRight n true = false) : (layG G n).2.1 = 60 ∨ (layG G n).2.1 = 81 := by
 unfold layG
 split
 ·
  right; rw [write_bad hn]
 ·
  left
  rename_i h
  unfold takeE at h ⊢
  rw [if_pos hk.alloc] at h ⊢
  split
  ·
   rfl
  ·
   rename_i h2; rw [if_neg h2] at h; exact absurd rfl h
theorem renew_is {G : WoodS} {block : Int} {n : NodeS} (hk : Ok G) (hb : G.has block) (h10 : 10 ≤ block) (hn : nodeRight n true = true) :
  ((renewG G block n).2.1 = 60 ∧ G.free = 0) ∨ ∃ k G', renewG G block n = (k, 0, G') ∧ 10 ≤ k ∧ k < G.now.length ∧ Turn G G' (fun b => b = block) (fun b => b = k) 1 ∧ (k = block ∨ ¬ G.has k) ∧ ∀ r, nodeRight n r = true → G'.holds k r = some n := by
 have hlt := has_lt hb
 by_cases hc : atB G.base block.toNat = false
 ·
  right
  have hnc : ¬ G.counts block := fun h => by rw [h.2] at hc; cases hc
  obtain ⟨G', hw, t, _, hh⟩ := write_is hk hb h10 hnc hn
  refine ⟨block, G', by unfold renewG; rw [if_pos hc, hw], h10, hlt, t.of (fun _ => Iff.rfl) (fun _ => Iff.rfl) (by omega), .inl rfl, hh⟩
 ·
  have hct : atB G.base block.toNat = true := by simpa using hc
  have hcc : G.counts block := ⟨hb.1, hct⟩
  have hgR : giveR G.now [block] = some (G.now.set block.toNat false) := by
   rw [giveR, if_pos ⟨h10, hlt, hb.2⟩]; rfl
  have hgE : giveE G.base G.now [block] = 0 := by unfold giveE; rw [if_pos hk.alloc, hgR]; rfl
  have hgB : giveB G.base G.now [block] = G.base := by unfold giveB; rw [if_pos hgE]
  have hgN : giveN G.base G.now [block] = G.now.set block.toNat false := by unfold giveN; rw [if_pos hgE, hgR]; rfl
  obtain ⟨G1, hG1⟩ : ∃ G1, G1 = G.withAlloc G.base (G.now.set block.toNat false) := ⟨_, rfl⟩
  have e0 : renewG G block n = layG G1 n := by unfold renewG; rw [if_neg hc, hgB, hgN, hG1]
  have hk1 : Ok G1 := by rw [hG1]; exact ⟨right_set hk.alloc (by omega) false, by show G.pages.length = (G.now.set _ false).length; rw [List.length_set]; exact hk.len, hk.lo, hk.hi, hk.room⟩
  have has1 : ∀ b, G1.has b ↔ G.has b ∧ b ≠ block := by
   intro b
   rw [hG1]
   show (0 ≤ b ∧ atB (G.now.set block.toNat false) b.toNat = true) ↔ (0 ≤ b ∧ atB G.now b.toNat = true) ∧ b ≠ block
   rw [atB_setB]
   constructor
   ·
    rintro ⟨h1, h2⟩
    split at h2
    ·
     cases h2
    ·
     rename_i hh
     refine ⟨⟨h1, h2⟩, fun e => hh ⟨by rw [e], ?_⟩⟩
     exact atB_lt h2
   ·
    rintro ⟨⟨h1, h2⟩, h3⟩
    refine ⟨h1, ?_⟩
    rw [if_neg (fun hh => h3 (by omega))]
    exact h2
  have b1 : G1.base = G.base := by rw [hG1]; rfl
  have p1 : G1.pages = G.pages := by rw [hG1]; rfl
  have l1 : G1.now.length = G.now.length := by rw [hG1]; exact List.length_set ..
  have f1 : G1.free = G.free := by
   unfold WoodS.free
   rw [l1]
   refine howN_congr fun i hi => ?_
   unfold freeB
   rw [l1, b1]
   by_cases e : i = block.toNat
   ·
    subst e; rw [hct]; simp
   ·
    have : atB G1.now i = atB G.now i := by
     rw [hG1]
     show atB (G.now.set block.toNat false) i = _
     rw [atB_setB, if_neg (fun hh => e hh.1.symm)]
    rw [this]
  have t1 : Turn G G1 (fun b => b = block) (fun _ => False) 0 := by
   refine ⟨b1, by rw [hG1]; rfl, by rw [hG1]; rfl, l1, hk1, fun b => ?_, fun b _ _ => by rw [p1], fun b _ => by rw [p1], fun b h => h.elim, fun b h => h.elim, by rw [f1]; exact Nat.le_refl _⟩
   rw [has1]
   exact ⟨.inl, fun h => h.resolve_right id⟩
  rw [e0]
  rcases lay_is hk1 hn with ⟨h1, h2⟩ | ⟨k, G', h1, h2, h3, h4, h5, t, hh⟩
  ·
   exact .inl ⟨h1, by rw [← f1]; exact h2⟩
  ·
   refine .inr ⟨k, G', h1, h2, by rw [← l1]; exact h3, (t1.trans t fun b h => h.elim).of (fun b => ⟨fun h => h.resolve_right id, .inl⟩) (fun b => ⟨fun h => h.resolve_left (fun x => x.1), .inr⟩) (by omega), ?_, hh⟩
   by_cases e : k = block
   ·
    exact .inl e
   ·
    exact .inr fun h => h4 ((has1 k).2 ⟨h, e⟩)
theorem renew_bad {G : WoodS} {block : Int} {n : NodeS} (hk : Ok G) (hb : G.has block) (h10 : 10 ≤ block) (hn : nodeRight n true = false) : (renewG G block n).2.1 = 60 ∨ (renewG G block n).2.1 = 81 := by
 unfold renewG
 split
 ·
  right; rw [write_bad hn]
 ·
  have hlt := has_lt hb
  have hgR : giveR G.now [block] = some (G.now.set block.toNat false) := by
   rw [giveR, if_pos ⟨h10, hlt, hb.2⟩]; rfl
  have hgE : giveE G.base G.now [block] = 0 := by unfold giveE; rw [if_pos hk.alloc, hgR]; rfl
  refine lay_bad ?_ hn
  have hgB : giveB G.base G.now [block] = G.base := by unfold giveB; rw [if_pos hgE]
  have hgN : giveN G.base G.now [block] = G.now.set block.toNat false := by unfold giveN; rw [if_pos hgE, hgR]; rfl
  rw [hgB, hgN]
  exact ⟨right_set hk.alloc (by omega) false, by show G.pages.length = (G.now.set _ false).length; rw [List.length_set]; exact hk.len, hk.lo, hk.hi, hk.room⟩
end Go.Proofs.YtaecfbfcjaailaaGreat
namespace Go.Proofs.YtaecfbfcjaailaaGreat
open Go.RowKit Plain
set_option linter.unusedVariables false
namespace Plain
theorem with_mid {Q1 Qi Q2 : List (ByteArray × ByteArray)} {key : ByteArray} (h1 : ∀ q ∈ Q1, ltB q.1 key = true) (h2 : ∀ q ∈ Q2, ltB key q.1 = true) (val : ByteArray) : withP (Q1 ++ (Qi ++ Q2)) key val = Q1 ++ (withP Qi key val ++ Q2) := by
 induction Q1 with
 | nil =>
  rw [List.nil_append, List.nil_append]
  have hne : ∀ q ∈ Q2, q.1 ≠ key := fun q hq e => by have := h2 q hq; rw [e, ltB_irrefl] at this; cases this
  have hf : Q2.filter (fun q => decide (q.1 ≠ key)) = Q2 := List.filter_eq_self.2 fun q hq => decide_eq_true (hne q hq)
  induction Qi with
  | nil =>
   cases Q2 with
   | nil => rfl
   | cons q Q2 =>
    have e : withP (q :: Q2) key val = (key, val) :: (q :: Q2).filter (fun q => decide (q.1 ≠ key)) := by rw [withP, if_neg (by rw [ltB_asymm (h2 q (by simp))]; decide)]
    rw [List.nil_append, e, hf]
    rfl
  | cons p Qi ih =>
   rw [List.cons_append, withP, withP]
   split
   ·
    rw [ih]; rfl
   ·
    rw [← List.cons_append, List.filter_append, hf]; rfl
 | cons p Q1 ih =>
  rw [List.cons_append, withP, if_pos (h1 p (by simp)), ih (fun q hq => h1 q (by simp [hq])), List.cons_append]
def withPairN (ks vs : List ByteArray) (key val : ByteArray) : NodeS :=
 (true, ks.take (findN key ks) ++ (key :: ks.drop (findN key ks + (if isN ks key = true then 1 else 0))), vs.take (findN key ks) ++ (val :: vs.drop (findN key ks + (if isN ks key = true then 1 else 0))), [])
theorem leaf_with : ∀ {ks vs : List ByteArray} (key val : ByteArray), risingK ks = true → vs.length = ks.length → (withPairN ks vs key val).2.1.zip (withPairN ks vs key val).2.2.1 = withP (ks.zip vs) key val ∧ (withPairN ks vs key val).2.2.1.length = (withPairN ks vs key val).2.1.length ∧ ks.length ≤ (withPairN ks vs key val).2.1.length ∧ (withPairN ks vs key val).2.1.length ≤ ks.length + 1
 | [], [], key, val, _, _ => ⟨rfl, rfl, by simp, by simp [withPairN, findN, isN]⟩
 | [], _ :: _, _, _, _, h => by simp at h
 | _ :: _, [], _, _, _, h => by simp at h
 | k :: ks, v :: vs, key, val, hr, hl => by
  have hr2 : risingK ks = true := by rw [risingK, Bool.and_eq_true] at hr; exact hr.2
  by_cases hlt : ltB k key = true
  ·
   have hf : findN key (k :: ks) = findN key ks + 1 := by rw [findN, if_pos hlt]
   have hi : isN (k :: ks) key = isN ks key := by unfold isN; rw [hf]; simp
   obtain ⟨h1, h2, h3, h4⟩ := leaf_with (ks := ks) (vs := vs) key val hr2 (by simpa using hl)
   have e1 : (withPairN (k :: ks) (v :: vs) key val).2.1 = k :: (withPairN ks vs key val).2.1 := by
    unfold withPairN
    rw [hf, hi]
    simp only [List.take_succ_cons, List.cons_append]
    rw [Nat.add_right_comm, List.drop_succ_cons]
   have e2 : (withPairN (k :: ks) (v :: vs) key val).2.2.1 = v :: (withPairN ks vs key val).2.2.1 := by
    unfold withPairN
    rw [hf, hi]
    simp only [List.take_succ_cons, List.cons_append]
    rw [Nat.add_right_comm, List.drop_succ_cons]
   rw [e1, e2, List.zip_cons_cons, List.zip_cons_cons, withP, if_pos hlt, h1]
   refine ⟨rfl, by simp [h2], by simp; omega, by simp; omega⟩
  ·
   have hf : findN key (k :: ks) = 0 := by rw [findN, if_neg hlt]
   have hp := rising_pair hr
   rw [List.pairwise_cons] at hp
   have hlt' : ltB k key = false := by simpa using hlt
   have hrest : ∀ q ∈ ks.zip vs, q.1 ≠ key := fun q hq e => by
    have h1 := hp.1 q.1 (List.of_mem_zip hq).1
    rw [e, hlt'] at h1; cases h1
   have hfil : (ks.zip vs).filter (fun q => decide (q.1 ≠ key)) = ks.zip vs := List.filter_eq_self.2 fun q hq => decide_eq_true (hrest q hq)
   by_cases hk : k = key
   ·
    have hi : isN (k :: ks) key = true := by unfold isN; rw [hf, hk]; simp
    have e1 : withPairN (k :: ks) (v :: vs) key val = (true, key :: ks, val :: vs, []) := by
     unfold withPairN
     rw [hf, if_pos hi]
     simp
    rw [e1]
    simp only [List.zip_cons_cons]
    rw [withP, if_neg hlt, List.filter_cons, if_neg (by rw [hk]; simp), hfil]
    refine ⟨rfl, by simpa using hl, by simp, by simp⟩
   ·
    have hi : isN (k :: ks) key = false := by unfold isN; rw [hf]; simpa using hk
    have e1 : withPairN (k :: ks) (v :: vs) key val = (true, key :: k :: ks, val :: v :: vs, []) := by
     unfold withPairN
     rw [hf, if_neg (by rw [hi]; decide)]
     simp
    rw [e1]
    simp only [List.zip_cons_cons]
    rw [withP, if_neg hlt, List.filter_cons, if_pos (by simpa using hk), hfil]
    refine ⟨rfl, by simpa using hl, by simp, by simp⟩
theorem leaf_with_keys {ks vs : List ByteArray} {key val : ByteArray} : (∀ x ∈ (withPairN ks vs key val).2.1, x = key ∨ x ∈ ks) ∧ ∀ x ∈ (withPairN ks vs key val).2.2.1, x = val ∨ x ∈ vs := by
 unfold withPairN
 constructor
 ·
  intro x hx
  rcases List.mem_append.1 hx with h | h
  ·
   exact .inr (List.mem_of_mem_take h)
  ·
   rcases List.mem_cons.1 h with h | h
   ·
    exact .inl h
   ·
    exact .inr (List.mem_of_mem_drop h)
 ·
  intro x hx
  rcases List.mem_append.1 hx with h | h
  ·
   exact .inr (List.mem_of_mem_take h)
  ·
   rcases List.mem_cons.1 h with h | h
   ·
    exact .inl h
   ·
    exact .inr (List.mem_of_mem_drop h)
theorem leaf_with_stands {ks vs : List ByteArray} {key val : ByteArray} (hs : standsN true ks vs [] = true) (h8 : ks.length ≤ 8) (hk : keyIn key) (hv : val.size ≤ 200) : standsN true (withPairN ks vs key val).2.1 (withPairN ks vs key val).2.2.1 [] = true := by
 obtain ⟨_, g1, g2, g3, _, g5⟩ := standsN_iff.1 hs
 have hl : vs.length = ks.length := (shape_leaf.1 g5).1
 obtain ⟨h1, h2, h3, h4⟩ := leaf_with key val g2 hl
 refine standsN_iff.2 ⟨by omega, fun x hx => ?_, ?_, fun x hx => ?_, fun c hc => (by cases hc), shape_leaf.2 ⟨h2, rfl⟩⟩
 ·
  rcases leaf_with_keys.1 x hx with rfl | h
  ·
   exact hk
  ·
   exact g1 x h
 ·
  have hm : ((withPairN ks vs key val).2.1.zip (withPairN ks vs key val).2.2.1).map Prod.fst = (withPairN ks vs key val).2.1 := List.map_fst_zip (by omega)
  have hm0 : (ks.zip vs).map Prod.fst = ks := List.map_fst_zip (by omega)
  have hR : Rising (ks.zip vs) := by
   have := rising_pair g2
   rw [← hm0, List.pairwise_map] at this
   exact this
  apply rising_of
  rw [← hm, List.pairwise_map, h1]
  exact with_rising hR key val
 ·
  rcases leaf_with_keys.2 x hx with rfl | h
  ·
   exact hv
  ·
   exact g3 x h
theorem within_lt {x l u : ByteArray} (h : withinS x l u = true) : u.size = 0 ∨ ltB l u = true := by
 rcases within_high h with h1 | h1
 ·
  exact .inl h1
 ·
  right
  cases hh : ltB l u with
  | true => rfl
  | false =>
   have h2 := within_low h
   have := not_below (x := x) (y := l) (low := u) h2 hh
   rw [h1] at this; cases this
theorem chain_rising {P : Sub} (hP : ∀ b l u Q B, P b l u Q B → ∃ x, withinS x l u = true) {low high : ByteArray} {ks : List ByteArray} {cs : List Int} {Q : List (ByteArray × ByteArray)} {B : List Int} (h : Chain P low ks cs high Q B) : (∀ m ∈ ks, 1 ≤ m.size) → (high.size = 0 ∨ ltB low high = true) ∧ risingK ks = true ∧ ∀ m ∈ ks, ltB low m = true ∧ (high.size = 0 ∨ ltB m high = true) := by
 induction h with
 | one h =>
  intro _
  obtain ⟨x, hx⟩ := hP _ _ _ _ _ h
  exact ⟨within_lt hx, rfl, fun m hm => by cases hm⟩
 | @cons low m high b ks cs Q Q' B B' h t ih =>
  intro hk
  obtain ⟨x, hx⟩ := hP _ _ _ _ _ h
  obtain ⟨i1, i2, i3⟩ := ih fun y hy => hk y (by simp [hy])
  have hm : ltB low m = true := (within_lt hx).resolve_left (by have := hk m (by simp); omega)
  refine ⟨?_, ?_, fun y hy => ?_⟩
  ·
   rcases i1 with i1 | i1
   ·
    exact .inl i1
   ·
    exact .inr (ltB_trans hm i1)
  ·
   rw [risingK, i2, Bool.and_true]
   cases ks with
   | nil => rfl
   | cons y ks => exact (i3 y (by simp)).1
  ·
   rcases List.mem_cons.1 hy with rfl | hy
   ·
    exact ⟨hm, i1⟩
   ·
    exact ⟨ltB_trans hm (i3 y hy).1, (i3 y hy).2⟩
theorem chain_low {P : Sub} (hP : ∀ b l u Q B, P b l u Q B → ∀ q ∈ Q, withinS q.1 l u = true) {low high : ByteArray} {ks : List ByteArray} {cs : List Int} {Q : List (ByteArray × ByteArray)} {B : List Int} (h : Chain P low ks cs high Q B) : ∀ q ∈ Q, ltB q.1 low = false ∨ ∃ (j : Nat) (m : ByteArray), ks[j]? = some m ∧ ltB q.1 m = false := by
 induction h with
 | one h => exact fun q hq => .inl (within_low (hP _ _ _ _ _ h q hq))
 | @cons low m high b ks cs Q Q' B B' h t ih =>
  intro q hq
  rcases List.mem_append.1 hq with hq | hq
  ·
   exact .inl (within_low (hP _ _ _ _ _ h q hq))
  ·
   rcases ih q hq with h1 | ⟨j, y, h1, h2⟩
   ·
    exact .inr ⟨0, m, rfl, h1⟩
   ·
    exact .inr ⟨j + 1, y, by simpa using h1, h2⟩
theorem Chain.mid {P : Sub} (hP : ∀ b l u Q B, P b l u Q B → ∀ q ∈ Q, withinS q.1 l u = true) {low high : ByteArray} {ks : List ByteArray} {cs : List Int} {Q : List (ByteArray × ByteArray)} {B : List Int} (h : Chain P low ks cs high Q B) : ∀ (i : Nat), i ≤ ks.length → ∃ b Q1 Qi Q2 B1 Bi B2, cs[i]? = some b ∧ Q = Q1 ++ (Qi ++ Q2) ∧ B = B1 ++ (Bi ++ B2) ∧ P b (kidFrom low ks i) (kidTo high ks i) Qi Bi ∧
  (∀ q ∈ Q1, ∃ (j : Nat) (m : ByteArray), j < i ∧ ks[j]? = some m ∧ (m.size = 0 ∨ ltB q.1 m = true)) ∧ (∀ q ∈ Q2, ∃ (j : Nat) (m : ByteArray), i ≤ j ∧ ks[j]? = some m ∧ ltB q.1 m = false) ∧
  ∀ (P' : Sub) (rk : List ByteArray) (rc : List Int) (Q' : List (ByteArray × ByteArray)) (B' : List Int), (∀ b l u Q' B', (∀ x ∈ B', x ∈ B1 ∨ x ∈ B2) → P b l u Q' B' → P' b l u Q' B') → Chain P' (kidFrom low ks i) rk rc (kidTo high ks i) Q' B' →
   Chain P' low (ks.take i ++ (rk ++ ks.drop i)) (cs.take i ++ (rc ++ cs.drop (i + 1))) high (Q1 ++ (Q' ++ Q2)) (B1 ++ (B' ++ B2)) := by
 induction h with
 | @one low high b Q B h =>
  intro i hi
  obtain rfl : i = 0 := by simpa using hi
  exact ⟨b, [], Q, [], [], B, [], rfl, by simp, by simp, h, fun q hq => (by cases hq), fun q hq => (by cases hq), fun P' rk rc Q' B' hp hc => by have hc' : Chain P' low rk rc high Q' B' := hc; simpa using hc'⟩
 | @cons low m high b ks cs Q Q' B B' h t ih =>
  intro i hi
  cases i with
  | zero =>
   refine ⟨b, [], Q, Q', [], B, B', rfl, by simp, by simp, h, fun q hq => (by cases hq), fun q hq => ?_, fun P' rk rc Q'' B'' hp hc => ?_⟩
   ·
    rcases chain_low hP t q hq with h1 | ⟨j, y, h1, h2⟩
    ·
     exact ⟨0, m, Nat.le_refl _, rfl, h1⟩
    ·
     exact ⟨j + 1, y, Nat.zero_le _, by simpa using h1, h2⟩
   ·
    have ht : Chain P' m ks cs high Q' B' := t.mono fun b l u Q3 B3 hb => hp b l u Q3 B3 fun x hx => .inr (hb x hx)
    have hc' : Chain P' low rk rc m Q'' B'' := hc
    have join : ∀ {l u : ByteArray} {rk : List ByteArray} {rc : List Int} {Q1 : List (ByteArray × ByteArray)} {B1 : List Int}, Chain P' l rk rc u Q1 B1 → u = m → Chain P' l (rk ++ m :: ks) (rc ++ cs) high (Q1 ++ Q') (B1 ++ B') := by
     intro l u rk rc Q1 B1 hx
     induction hx with
     | one hx => rintro rfl; exact .cons hx ht
     | cons hx tx ihx => intro e; rw [List.append_assoc, List.append_assoc]; exact .cons hx (ihx e)
    simpa using join hc' rfl
  | succ i =>
   obtain ⟨b0, Q1, Qi, Q2, B1, Bi, B2, hb, hQ, hB, hPi, h1, h2, hr⟩ := ih i (by simpa using hi)
   have kf : kidFrom low (m :: ks) (i + 1) = kidFrom m ks i := by
    unfold kidFrom
    cases i with
    | zero => rfl
    | succ i => rfl
   have kt : kidTo high (m :: ks) (i + 1) = kidTo high ks i := by
    unfold kidTo
    simp
   refine ⟨b0, Q ++ Q1, Qi, Q2, B ++ B1, Bi, B2, by simpa using hb, by rw [hQ, List.append_assoc], by rw [hB, List.append_assoc], by rw [kf, kt]; exact hPi, fun q hq => ?_, fun q hq => ?_, fun P' rk rc Q'' B'' hp hc => ?_⟩
   ·
    rcases List.mem_append.1 hq with hq | hq
    ·
     exact ⟨0, m, by omega, rfl, within_high (hP _ _ _ _ _ h q hq)⟩
    ·
     obtain ⟨j, y, g1, g2, g3⟩ := h1 q hq
     exact ⟨j + 1, y, by omega, by simpa using g2, g3⟩
   ·
    obtain ⟨j, y, g1, g2, g3⟩ := h2 q hq
    exact ⟨j + 1, y, by omega, by simpa using g2, g3⟩
   ·
    rw [kf, kt] at hc
    have := hr P' rk rc Q'' B'' (fun b l u Q3 B3 hb => hp b l u Q3 B3 fun x hx => (hb x hx).imp (fun y => by simp [y]) id) hc
    rw [List.append_assoc, List.append_assoc, List.take_succ_cons, List.drop_succ_cons, List.take_succ_cons, List.drop_succ_cons, List.cons_append, List.cons_append]
    exact .cons (hp _ _ _ _ _ (fun x hx => by simp [hx]) h) this
theorem kid_within {ks : List ByteArray} {key low high : ByteArray} (hr : risingK ks = true) (hw : withinS key low high = true) : withinS key (kidFrom low ks (kidN ks key)) (kidTo high ks (kidN ks key)) = true := by
 refine within_of ?_ ?_
 ·
  unfold kidFrom
  split
  ·
   exact within_low hw
  ·
   rename_i h
   have hl := kidN_le ks key
   have hlt : kidN ks key - 1 < ks.length := by omega
   rw [List.getD_eq_getElem?_getD, List.getElem?_eq_getElem hlt]
   exact kidN_lt hr (List.getElem?_eq_getElem hlt) (by omega)
 ·
  unfold kidTo
  split
  ·
   rename_i h
   rw [List.getD_eq_getElem?_getD, List.getElem?_eq_getElem h]
   exact .inr (kidN_ge hr (List.getElem?_eq_getElem h) (Nat.le_refl _))
  ·
   exact within_high hw
theorem tree_key {H : Int → Bool → Option NodeS} (hI : Keyed H) {ht : Nat} {r : Bool} {b : Int} {l u : ByteArray} {Q : List (ByteArray × ByteArray)} {B : List Int} (h : TreeOf H ht r b l u Q B) : ∃ x, withinS x l u = true := by
 cases ht with
 | zero => exact h.elim
 | succ ht =>
  obtain ⟨n, C, h1, h2, h3, h4⟩ := h
  have hne : n.2.1 ≠ [] := by
   rcases h4 with h4 | h4
   ·
    exact h4.2.2.1
   ·
    exact hI _ _ _ h1 h4.1
  obtain ⟨x, hx⟩ := List.exists_mem_of_ne_nil _ hne
  exact ⟨x, h2 x hx⟩
theorem tree_pairs {H : Int → Bool → Option NodeS} (hH : Holding H) : ∀ {ht : Nat} {r : Bool} {b : Int} {l u : ByteArray} {Q : List (ByteArray × ByteArray)} {B : List Int}, TreeOf H ht r b l u Q B → Rising Q ∧ ∀ q ∈ Q, withinS q.1 l u = true ∧ keyIn q.1
 | 0, _, _, _, _, _, _, h => h.elim
 | ht + 1, r, b, l, u, Q, B, ⟨n, C, h1, h2, h3, h4⟩ => by
  obtain ⟨g1, g2, g3, g4⟩ := hH _ _ _ h1
  rcases h4 with ⟨a1, a2, a3, a4, a5⟩ | ⟨a1, a2, a3⟩
  ·
   subst a4
   have hm : (n.2.1.zip n.2.2.1).map Prod.fst = n.2.1 := List.map_fst_zip (by have := g3 a1; omega)
   refine ⟨?_, fun q hq => ?_⟩
   ·
    have := rising_pair g1
    rw [← hm, List.pairwise_map] at this
    exact this
   ·
    have := (List.of_mem_zip hq).1
    exact ⟨h2 _ this, g2 _ this⟩
  ·
   have go : ∀ {low high : ByteArray} {ks : List ByteArray} {cs : List Int} {Q : List (ByteArray × ByteArray)} {B : List Int}, Chain (TreeOf H ht false) low ks cs high Q B → risingK ks = true → (∀ x ∈ ks, keyIn x) → (∀ x ∈ ks, withinS x low high = true) → Rising Q ∧ ∀ q ∈ Q, withinS q.1 low high = true ∧ keyIn q.1 := by
    intro low high ks cs Q B hc
    induction hc with
    | one hx => exact fun _ _ _ => tree_pairs hH hx
    | @cons low m high b ks cs Q Q' B B' hx tx ihx =>
     intro r1 r2 r3
     obtain ⟨p1, p2⟩ := tree_pairs hH hx
     have hpair := List.pairwise_cons.1 (rising_pair r1)
     have hmz := (r2 m (by simp)).1
     obtain ⟨q1, q2⟩ := ihx (rising_of hpair.2) (fun x hx => r2 x (by simp [hx])) (fun x hx => within_of (ltB_asymm (hpair.1 x hx)) (within_high (r3 x (by simp [hx]))))
     have hm := r3 m (by simp)
     refine ⟨List.pairwise_append.2 ⟨p1, q1, fun a ha c hc => ?_⟩, fun q hq => ?_⟩
     ·
      have ha' : ltB a.1 m = true := (within_high (p2 a ha).1).resolve_left (by omega)
      exact ltB_le ha' (within_low (q2 c hc).1)
     ·
      rcases List.mem_append.1 hq with hq | hq
      ·
       refine ⟨within_of (within_low (p2 q hq).1) ?_, (p2 q hq).2⟩
       have ha' : ltB q.1 m = true := (within_high (p2 q hq).1).resolve_left (by omega)
       rcases within_high hm with e | e
       ·
        exact .inl e
       ·
        exact .inr (ltB_trans ha' e)
      ·
       exact ⟨within_of (not_below (within_low (q2 q hq).1) (within_low hm)) (within_high (q2 q hq).1), (q2 q hq).2⟩
   exact go a3 g1 g2 h2
end Plain
end Go.Proofs.YtaecfbfcjaailaaGreat
namespace Go.Proofs.YtaecfbfcjaailaaGreat
open Go.RowKit Plain
set_option linter.unusedVariables false
theorem holds_ing' (G : WoodS) : Holding G.holds := by
 intro b r n h
 have hs := (rightN_iff.1 (holds_nodeRight h)).1
 obtain ⟨l, ks, vs, cs⟩ := n
 obtain ⟨h9, g1, g2, _, _, hsh⟩ := standsN_iff.1 hs
 refine ⟨g2, g1, fun e => ?_, fun e => ?_⟩
 ·
  have e' : l = true := e
  subst e'
  exact (shape_leaf.1 hsh).1
 ·
  have e' : l = false := e
  subst e'
  exact (shape_inner.1 hsh).2.2
theorem holds_keyed' (G : WoodS) : Keyed G.holds := by
 intro b r n h e
 have hs := (rightN_iff.1 (holds_nodeRight h)).1
 obtain ⟨l, ks, vs, cs⟩ := n
 have e' : l = false := e
 subst e'
 obtain ⟨_, _, _, _, _, hsh⟩ := standsN_iff.1 hs
 have := (shape_inner.1 hsh).2.1
 intro e2
 have e2' : ks = [] := e2
 rw [e2'] at this
 simp at this
theorem holds_wide (G : WoodS) : Wide G.holds := by
 intro b r n h e
 obtain ⟨hs, _, h4⟩ := rightN_iff.1 (holds_nodeRight h)
 obtain ⟨l, ks, vs, cs⟩ := n
 have e' : l = false := e
 subst e'
 obtain ⟨_, _, _, _, _, hsh⟩ := standsN_iff.1 hs
 obtain ⟨_, h1, h2⟩ := shape_inner.1 hsh
 have h2' : cs.length = ks.length + 1 := h2
 have h1' : 1 ≤ ks.length := h1
 refine ⟨by show 2 ≤ cs.length; omega, fun hr => ?_⟩
 have : 4 ≤ ks.length := h4.resolve_left (by rw [hr]; decide)
 show 5 ≤ cs.length
 omega
theorem tree_has {G : WoodS} : ∀ {ht : Nat} {r : Bool} {b : Int} {l u : ByteArray} {Q : List (ByteArray × ByteArray)} {B : List Int}, TreeOf G.holds ht r b l u Q B → ∀ x ∈ B, G.has x ∧ 10 ≤ x ∧ x < G.now.length
 | 0, _, _, _, _, _, _, h => h.elim
 | ht + 1, r, b, l, u, Q, B, ⟨n, C, h1, h2, h3, h4⟩ => by
  subst h3
  intro x hx
  rcases List.mem_cons.1 hx with rfl | hx
  ·
   exact holds_has h1
  ·
   rcases h4 with ⟨_, _, _, _, rfl⟩ | ⟨_, _, c⟩
   ·
    cases hx
   ·
    have go : ∀ {low high : ByteArray} {ks : List ByteArray} {cs : List Int} {Q : List (ByteArray × ByteArray)} {B : List Int}, Chain (TreeOf G.holds ht false) low ks cs high Q B → ∀ x ∈ B, G.has x ∧ 10 ≤ x ∧ x < G.now.length := by
     intro low high ks cs Q B hc
     induction hc with
     | one hy => exact tree_has hy
     | cons hy ty ihy =>
      intro x hx
      rcases List.mem_append.1 hx with hx | hx
      ·
       exact tree_has hy x hx
      ·
       exact ihy x hx
    exact go c x hx
theorem tree_top {G : WoodS} {ht : Nat} {r : Bool} {b : Int} {l u : ByteArray} {Q : List (ByteArray × ByteArray)} {B : List Int} (h : TreeOf G.holds ht r b l u Q B) : b ∈ B := by
 cases ht with
 | zero => exact h.elim
 | succ ht =>
  obtain ⟨n, C, h1, h2, h3, h4⟩ := h
  rw [h3]; simp
theorem chain_tops {G : WoodS} {ht : Nat} {low high : ByteArray} {ks : List ByteArray} {cs : List Int} {Q : List (ByteArray × ByteArray)} {B : List Int} (h : Chain (TreeOf G.holds ht false) low ks cs high Q B) : ∀ c ∈ cs, c ∈ B := by
 induction h with
 | one h => intro c hc; simp at hc; subst hc; exact tree_top h
 | cons h t ih =>
  intro c hc
  rcases List.mem_cons.1 hc with rfl | hc
  ·
   simp [tree_top h]
  ·
   simp [ih c hc]
theorem chain_has {G : WoodS} {ht : Nat} {low high : ByteArray} {ks : List ByteArray} {cs : List Int} {Q : List (ByteArray × ByteArray)} {B : List Int} (h : Chain (TreeOf G.holds ht false) low ks cs high Q B) : ∀ x ∈ B, G.has x ∧ 10 ≤ x ∧ x < G.now.length := by
 induction h with
 | one h => exact tree_has h
 | cons h t ih =>
  intro x hx
  rcases List.mem_append.1 hx with hx | hx
  ·
   exact tree_has h x hx
  ·
   exact ih x hx
theorem body_has {G : WoodS} {ht : Nat} {n : NodeS} {low high : ByteArray} {Q : List (ByteArray × ByteArray)} {B : List Int} (h : Body (TreeOf G.holds ht false) ht n low high Q B) : ∀ x ∈ B, G.has x := by
 rcases h with ⟨_, _, _, _, rfl⟩ | ⟨_, _, c⟩
 ·
  intro x hx; cases hx
 ·
  exact fun x hx => (chain_has c x hx).1
theorem cutNOk_iff {n : NodeS} : cutNOk n = true ↔ standsN n.1 n.2.1 n.2.2.1 n.2.2.2 = true ∧ n.2.1.length = 9 := by
 unfold cutNOk cutOk
 simp only [Bool.and_eq_true, decide_eq_true_eq]
theorem cut_parts {n : NodeS} (h : cutNOk n = true) : cutNA n = (n.1, n.2.1.take 4, n.2.2.1.take 4, n.2.2.2.take 5) ∧ cutNB n = (n.1, n.2.1.drop (cutFrom n.1), n.2.2.1.drop 4, n.2.2.2.drop 5) ∧ n.2.1[4]? = some (cutNM n) := by
 have h' : cutOk n.1 n.2.1 n.2.2.1 n.2.2.2 = true := h
 have h9 := (cutNOk_iff.1 h).2
 refine ⟨?_, ?_, ?_⟩
 ·
  unfold cutNA cutL cutAK cutAV cutAC
  rw [h']; simp
 ·
  unfold cutNB cutL cutBK cutBV cutBC
  rw [h']; simp
 ·
  unfold cutNM cutM
  rw [if_pos h', List.getD_eq_getElem?_getD, List.getElem?_eq_getElem (by omega)]
  rfl
theorem cut_right {n : NodeS} (h : cutNOk n = true) : nodeRight (cutNA n) false = true ∧ nodeRight (cutNB n) false = true := by
 obtain ⟨e1, e2, e3⟩ := cut_parts h
 obtain ⟨hs, h9⟩ := cutNOk_iff.1 h
 obtain ⟨h1, h2, _⟩ := cut_join hs h9 e3
 unfold nodeRight
 rw [e1, e2]
 exact ⟨h1, h2⟩
theorem right_root {n : NodeS} {r : Bool} (h : nodeRight n r = true) : nodeRight n true = true := rightN_iff.2 ⟨(rightN_iff.1 h).1, (rightN_iff.1 h).2.1, .inl rfl⟩
theorem body_cut {P : Sub} {ht : Nat} {n : NodeS} {low high : ByteArray} {Q : List (ByteArray × ByteArray)} {B : List Int} (h : Body P ht n low high Q B) (hok : cutNOk n = true) : ∃ Q1 Q2 B1 B2, Body P ht (cutNA n) low (cutNM n) Q1 B1 ∧ Body P ht (cutNB n) (cutNM n) high Q2 B2 ∧ Q = Q1 ++ Q2 ∧ B = B1 ++ B2 := by
 obtain ⟨e1, e2, e3⟩ := cut_parts hok
 obtain ⟨hs, h9⟩ := cutNOk_iff.1 hok
 rw [e1, e2]
 generalize cutNM n = m at e3 ⊢
 clear e1 e2 hok
 obtain ⟨l, ks, vs, cs⟩ := n
 simp only at hs h9 e3 ⊢
 cases l with
 | true =>
  obtain ⟨_, _, _, _, _, hsh⟩ := standsN_iff.1 hs
  have hl : vs.length = ks.length := (shape_leaf.1 hsh).1
  rcases h with ⟨_, a2, a3, a4, a5⟩ | ⟨a, _⟩
  ·
   simp only at a4
   refine ⟨(ks.take 4).zip (vs.take 4), (ks.drop 4).zip (vs.drop 4), [], [], .inl ⟨rfl, a2, fun e => ?_, rfl, rfl⟩, .inl ⟨rfl, a2, fun e => ?_, rfl, rfl⟩, ?_, a5⟩
   ·
    have e' : (ks.take 4).length = 0 := congrArg List.length e
    rw [List.length_take] at e'
    omega
   ·
    have e' : (ks.drop 4).length = 0 := congrArg List.length e
    rw [List.length_drop] at e'
    omega
   ·
    rw [a4, ← List.zip_append (by simp; omega), List.take_append_drop, List.take_append_drop]
  ·
   cases a
 | false =>
  rcases h with ⟨a, _⟩ | ⟨_, a2, c⟩
  ·
   cases a
  ·
   simp only at c
   have hj : 4 < ks.length := by omega
   have hks : ks = ks.take 4 ++ m :: ks.drop 5 := by
    obtain ⟨_, e⟩ := List.getElem?_eq_some_iff.1 e3
    rw [← e, ← List.drop_eq_getElem_cons hj, List.take_append_drop]
   have hl4 : (ks.take 4).length = 4 := by rw [List.length_take]; omega
   rw [hks] at c
   obtain ⟨Q1, Q2, B1, B2, c1, c2, q, b⟩ := c.cut
   rw [hl4] at c1 c2
   refine ⟨Q1, Q2, B1, B2, .inr ⟨rfl, a2, c1⟩, .inr ⟨rfl, a2, ?_⟩, q, b⟩
   simpa [cutFrom] using c2
def Row (G : WoodS) (ht : Nat) (r : Bool) (rk : List ByteArray) (rc : List Int) (low high : ByteArray) (Q : List (ByteArray × ByteArray)) (B : List Int) : Prop :=
 (∃ b, rk = [] ∧ rc = [b] ∧ TreeOf G.holds ht r b low high Q B) ∨ (∃ m b c, rk = [m] ∧ rc = [b, c] ∧ keyIn m ∧ Chain (TreeOf G.holds ht false) low [m] [b, c] high Q B)
theorem Row.chain {G : WoodS} {ht : Nat} {rk : List ByteArray} {rc : List Int} {low high : ByteArray} {Q : List (ByteArray × ByteArray)} {B : List Int} (h : Row G ht false rk rc low high Q B) : Chain (TreeOf G.holds ht false) low rk rc high Q B ∧ rk.length ≤ 1 ∧ ∀ m ∈ rk, keyIn m := by
 rcases h with ⟨b, rfl, rfl, h⟩ | ⟨m, b, c, rfl, rfl, hm, h⟩
 ·
  exact ⟨.one h, by simp, fun m hm => by cases hm⟩
 ·
  exact ⟨h, by simp, fun x hx => by simp at hx; rw [hx]; exact hm⟩
theorem replace_is {G : WoodS} {block : Int} {n : NodeS} {r : Bool} {ht : Nat} {low high : ByteArray} {Q : List (ByteArray × ByteArray)} {C : List Int} (hk : Ok G) (hb : G.has block) (h10 : 10 ≤ block) (hs : standsN n.1 n.2.1 n.2.2.1 n.2.2.2 = true) (h4 : r = false → 4 ≤ n.2.1.length)
  (hw : ∀ x ∈ n.2.1, withinS x low high = true) (hB : Body (TreeOf G.holds ht false) ht n low high Q C) (hnb : block ∉ C) (hn : C.Nodup) :
  ((replaceG G block n).1 = 60 ∧ G.free < 2) ∨ ∃ rk rc G' N B', replaceG G block n = (0, (rk, rc), G') ∧ Turn G G' (fun b => b = block) N 2 ∧ Row G' (ht + 1) r rk rc low high Q B' ∧ B'.Nodup ∧ ∀ b, b ∈ B' ↔ b ∈ C ∨ N b := by
 have hC : ∀ b ∈ C, G.has b := body_has hB
 have hCb : ∀ b ∈ C, b ≠ block := fun b h e => hnb (e ▸ h)
 by_cases h8 : n.2.1.length ≤ 8
 ·
  have hr : nodeRight n r = true := by
   refine rightN_iff.2 ⟨hs, h8, ?_⟩
   cases r with
   | true => exact .inl rfl
   | false => exact .inr (h4 rfl)
  rcases renew_is hk hb h10 (right_root hr) with ⟨h1, h2⟩ | ⟨k, G', h1, h2, h3, t, hkk, hh⟩
  ·
   left
   unfold replaceG
   rw [if_pos h8]
   exact ⟨h1, by omega⟩
  ·
   right
   have hkC : k ∉ C := fun h => by
    rcases hkk with e | e
    ·
     exact hCb k h e
    ·
     exact e (hC k h)
   refine ⟨[], [k], G', fun b => b = k, k :: C, ?_, t.of (fun _ => Iff.rfl) (fun _ => Iff.rfl) (by omega), .inl ⟨k, rfl, rfl, n, C, hh r hr, hw, rfl, hB.mono fun b hbC => t.holds hk (hC b hbC) (hCb b hbC)⟩, List.nodup_cons.2 ⟨hkC, hn⟩, fun b => ?_⟩
   ·
    unfold replaceG
    rw [if_pos h8, h1]
   ·
    rw [List.mem_cons]
    exact Or.comm
 ·
  have h9 : n.2.1.length = 9 := by have := (standsN_iff.1 hs).1; omega
  have hok : cutNOk n = true := cutNOk_iff.2 ⟨hs, h9⟩
  obtain ⟨hra, hrb⟩ := cut_right hok
  obtain ⟨ea, eb, em⟩ := cut_parts hok
  obtain ⟨Q1, Q2, B1, B2, hBa, hBb, rfl, rfl⟩ := body_cut hB hok
  obtain ⟨_, hkeys, hris, _, _, _⟩ := standsN_iff.1 hs
  obtain ⟨s1, s2, s3⟩ := cut_sides hris em
  have hmem : cutNM n ∈ n.2.1 := List.mem_of_getElem? em
  have hwa : ∀ x ∈ (cutNA n).2.1, withinS x low (cutNM n) = true := by
   rw [ea]
   exact fun x hx => within_of (within_low (hw x (List.mem_of_mem_take hx))) (.inr (s1 x hx))
  have hwb : ∀ x ∈ (cutNB n).2.1, withinS x (cutNM n) high = true := by
   rw [eb]
   intro x hx
   refine within_of ?_ (within_high (hw x (List.mem_of_mem_drop hx)))
   have hx' : x ∈ n.2.1.drop (cutFrom n.1) := hx
   unfold cutFrom at hx'
   split at hx'
   ·
    exact s2 x hx'
   ·
    exact s3 x hx'
  rw [List.nodup_append] at hn
  obtain ⟨hn1, hn2, hn3⟩ := hn
  rcases renew_is hk hb h10 (right_root hra) with ⟨h1, h2⟩ | ⟨k, G1, h1, h2, h3, t, hkk, hh⟩
  ·
   left
   unfold replaceG
   rw [if_neg h8, if_pos hok, if_neg (by rw [h1]; decide)]
   exact ⟨h1, by omega⟩
  ·
   have hkC : k ∉ B1 ++ B2 := fun h => by
    rcases hkk with e | e
    ·
     exact hCb k h e
    ·
     exact e (hC k h)
   have has1 : ∀ b ∈ B1 ++ B2, G1.has b := fun b h => (t.now b).2 (.inl ⟨hC b h, hCb b h⟩)
   have has1k : G1.has k := (t.now k).2 (.inr rfl)
   have e0 : replaceG G block n = ((layG G1 (cutNB n)).2.1, ([cutNM n], [k, (layG G1 (cutNB n)).1]), (layG G1 (cutNB n)).2.2) := by
    unfold replaceG
    rw [if_neg h8, if_pos hok, h1]
    rfl
   rw [e0]
   rcases lay_is t.ok (right_root hrb) with ⟨g1, g2⟩ | ⟨k2, G2, g1, g2, g3, g4, g5, t2, hh2⟩
   ·
    left
    have := t.free
    exact ⟨g1, by omega⟩
   ·
    right
    have hk2 : ∀ b ∈ k :: (B1 ++ B2), b ≠ k2 := by
     intro b hb' e
     subst e
     rcases List.mem_cons.1 hb' with e | e
     ·
      exact g4 (by rw [e]; exact has1k)
     ·
      exact g4 (has1 b e)
    have hsame : ∀ b ∈ B1 ++ B2, ∀ r, G2.holds b r = G.holds b r := fun b h r => (t2.holds t.ok (has1 b h) id r).trans (t.holds hk (hC b h) (hCb b h) r)
    have hh1 : G2.holds k false = some (cutNA n) := (t2.holds t.ok has1k id false).trans (hh false hra)
    refine ⟨[cutNM n], [k, k2], G2, fun b => b = k ∨ b = k2, (k :: B1) ++ (k2 :: B2), by rw [g1], (t.trans t2 fun b h => h.elim).of (fun b => ⟨fun h => h.resolve_right id, .inl⟩) (fun b => ⟨fun h => h.imp And.left id, fun h => h.imp (fun x => ⟨x, id⟩) id⟩) (by omega), .inr ⟨cutNM n, k, k2, rfl, rfl, hkeys _ hmem, ?_⟩, ?_, fun b => ?_⟩
    ·
     refine Chain.cons ⟨cutNA n, B1, hh1, hwa, rfl, hBa.mono fun b h => hsame b (by simp [h])⟩ (.one ⟨cutNB n, B2, hh2 false hrb, hwb, rfl, hBb.mono fun b h => hsame b (by simp [h])⟩)
    ·
     rw [List.nodup_append, List.nodup_cons, List.nodup_cons]
     refine ⟨⟨fun h => hkC (by simp [h]), hn1⟩, ⟨fun h => hk2 k2 (by simp [h]) rfl, hn2⟩, fun a ha b hb' e => ?_⟩
     subst e
     rcases List.mem_cons.1 ha with rfl | ha
     ·
      rcases List.mem_cons.1 hb' with e | e
      ·
       exact hk2 a (by simp) e
      ·
       exact hkC (by simp [e])
     ·
      rcases List.mem_cons.1 hb' with e | e
      ·
       exact hk2 a (by simp [ha]) e
      ·
       exact hn3 a ha a e rfl
    ·
     simp only [List.mem_append, List.mem_cons]
     constructor
     ·
      rintro ((h | h) | (h | h))
      ·
       exact .inr (.inl h)
      ·
       exact .inl (.inl h)
      ·
       exact .inr (.inr h)
      ·
       exact .inl (.inr h)
     ·
      rintro ((h | h) | (h | h))
      ·
       exact .inl (.inr h)
      ·
       exact .inr (.inr h)
      ·
       exact .inl (.inl h)
      ·
       exact .inr (.inl h)
abbrev StepS := Int × NodeS × Nat
def withRowN (n : NodeS) (i : Nat) (row : List ByteArray × List Int) : NodeS := (false, n.2.1.take i ++ (row.1 ++ n.2.1.drop i), [], n.2.2.2.take i ++ (row.2 ++ n.2.2.2.drop (i + 1)))
def procG : List StepS → WoodS → NodeS → Int × (List ByteArray × List Int) × WoodS
 | [], G, n => (81, ([], []), G)
 | [s], G, n => replaceG G s.1 n
 | s :: s' :: rest, G, n =>
  if (procG (s' :: rest) G n).1 = 0 then
   if (procG (s' :: rest) G n).2.1.2 = [s'.1] then (0, ([], [s.1]), (procG (s' :: rest) G n).2.2)
   else replaceG (procG (s' :: rest) G n).2.2 s.1 (withRowN s.2.1 s.2.2 (procG (s' :: rest) G n).2.1)
  else procG (s' :: rest) G n
def downG (H : Int → Bool → Option NodeS) (key : ByteArray) : Nat → Int → Bool → Option (List StepS)
 | 0, _, _ => none
 | k + 1, block, r => match H block r with
  | none => none
  | some n => if n.1 = true then some [(block, n, 0)] else (downG H key k (n.2.2.2.getD (kidN n.2.1 key) 0) false).map ((block, n, kidN n.2.1 key) :: ·)
def lastN (way : List StepS) : NodeS := ((way.getLast?).map (·.2.1)).getD (true, [], [], [])
theorem downG_at {H : Int → Bool → Option NodeS} {key : ByteArray} {k : Nat} {block : Int} {r : Bool} {n : NodeS} (h : H block r = some n) : downG H key (k + 1) block r = if n.1 = true then some [(block, n, 0)] else (downG H key k (n.2.2.2.getD (kidN n.2.1 key) 0) false).map ((block, n, kidN n.2.1 key) :: ·) := by
 rw [downG, h]
theorem ins_is {key val : ByteArray} (hkey : keyIn key) (hval : val.size ≤ 200) : ∀ (ht : Nat) (G : WoodS) (r : Bool) (block : Int) (low high : ByteArray) (Q : List (ByteArray × ByteArray)) (B : List Int) (k : Nat), Ok G → TreeOf G.holds ht r block low high Q B → B.Nodup → ht ≤ k → withinS key low high = true →
  ∃ n i tl, downG G.holds key k block r = some ((block, n, i) :: tl) ∧ ((block, n, i) :: tl).length = ht ∧
   (((procG ((block, n, i) :: tl) G (withPairN (lastN ((block, n, i) :: tl)).2.1 (lastN ((block, n, i) :: tl)).2.2.1 key val)).1 = 60 ∧ G.free < 2 * ht) ∨
    ∃ rk rc G' O N B', procG ((block, n, i) :: tl) G (withPairN (lastN ((block, n, i) :: tl)).2.1 (lastN ((block, n, i) :: tl)).2.2.1 key val) = (0, (rk, rc), G') ∧ Turn G G' O N (2 * ht) ∧ (∀ b, O b → b ∈ B) ∧ Row G' ht r rk rc low high (withP Q key val) B' ∧ B'.Nodup ∧ ∀ b, b ∈ B' ↔ (b ∈ B ∧ ¬ O b) ∨ N b)
 | 0, _, _, _, _, _, _, _, _, _, h, _, _, _ => h.elim
 | ht + 1, G, r, block, low, high, Q, B, 0, _, _, _, hk0, _ => by omega
 | ht + 1, G, r, block, low, high, Q, B, k + 1, hk, ⟨n, C, h1, h2, h3, h4⟩, hn, hkk, hw => by
  subst h3
  rw [List.nodup_cons] at hn
  obtain ⟨hbl, h10, hlt⟩ := holds_has h1
  have hnr := holds_nodeRight h1
  obtain ⟨hs, h8, hroot⟩ := rightN_iff.1 hnr
  rw [downG_at h1]
  obtain ⟨l, ks, vs, cs⟩ := n
  simp only at h2 hs h8 hroot ⊢
  rcases h4 with ⟨a1, a2, a3, a4, a5⟩ | ⟨a1, a2, c⟩
  ·
   simp only at a1 a3 a4
   subst a1 a2 a4 a5
   obtain ⟨_, g1, g2, g3, _, hsh⟩ := standsN_iff.1 hs
   obtain ⟨hl, hc0⟩ := shape_leaf.1 hsh
   obtain rfl : cs = [] := List.length_eq_zero_iff.1 hc0
   refine ⟨(true, ks, vs, []), 0, [], by simp, rfl, ?_⟩
   have e : lastN [(block, ((true, ks, vs, []) : NodeS), 0)] = (true, ks, vs, []) := rfl
   rw [e]
   obtain ⟨w1, w2, w3, w4⟩ := leaf_with key val g2 hl
   have hst := leaf_with_stands hs h8 hkey hval
   obtain ⟨nn, hnn⟩ : ∃ nn, nn = withPairN ks vs key val := ⟨_, rfl⟩
   have e1 : nn.1 = true := by rw [hnn]; rfl
   have e2 : nn.2.2.2 = [] := by rw [hnn]; rfl
   simp only
   rw [← hnn] at w1 w2 w3 w4 hst ⊢
   have hB : Body (TreeOf G.holds 0 false) 0 nn low high (withP (ks.zip vs) key val) [] := .inl ⟨e1, rfl, fun e3 => by rw [e3] at w3; exact a3 (List.length_eq_zero_iff.1 (by simpa using w3)), w1.symm, rfl⟩
   rcases replace_is (r := r) hk hbl h10 (by rw [e1, e2]; exact hst) (fun hr => by have := hroot.resolve_left (by rw [hr]; decide); omega) (fun x hx => by
    rw [hnn] at hx
    rcases leaf_with_keys.1 x hx with rfl | hx
    ·
     exact hw
    ·
     exact h2 x hx) hB (by simp) (by simp) with ⟨p1, p2⟩ | ⟨rk, rc, G', N, B', p1, p2, p3, p4, p5⟩
   ·
    exact .inl ⟨p1, by omega⟩
   ·
    refine .inr ⟨rk, rc, G', _, N, B', p1, p2.of (fun _ => Iff.rfl) (fun _ => Iff.rfl) (by omega), fun b e => by simp [e], p3, p4, fun b => ?_⟩
    rw [p5]
    simp only [List.not_mem_nil, false_or, List.mem_singleton]
    exact ⟨.inr, fun h => h.resolve_left (fun x => x.2 x.1)⟩
  ·
   simp only at a1 c
   subst a1
   obtain ⟨_, g1, g2, _, g4, hsh⟩ := standsN_iff.1 hs
   obtain ⟨_, _, hlc⟩ := shape_inner.1 hsh
   have hP : ∀ b l u Q B, TreeOf G.holds ht false b l u Q B → ∀ q ∈ Q, withinS q.1 l u = true := fun b l u Q B h q hq => ((tree_pairs (holds_ing' G) h).2 q hq).1
   obtain ⟨bi, Q1, Qi, Q2, B1, Bi, B2, m1, rfl, rfl, m4, m5, m6, m7⟩ := c.mid hP (kidN ks key) (kidN_le ks key)
   have hCh : ∀ x ∈ B1 ++ (Bi ++ B2), G.has x := fun x hx => (chain_has c x hx).1
   obtain ⟨hnb, hnC⟩ := hn
   rw [List.nodup_append, List.nodup_append] at hnC
   obtain ⟨n1, ⟨n2, n3, n4⟩, n5⟩ := hnC
   have hgd : cs.getD (kidN ks key) 0 = bi := by rw [List.getD_eq_getElem?_getD, m1]; rfl
   obtain ⟨n', i', tl, d1, d2, d3⟩ := ins_is hkey hval ht G false bi _ _ Qi Bi k hk m4 n2 (by omega) (kid_within g2 hw)
   simp only [Bool.false_eq_true, if_false, hgd]
   refine ⟨(false, ks, vs, cs), kidN ks key, (bi, n', i') :: tl, by rw [d1]; rfl, by rw [List.length_cons, d2], ?_⟩
   have e : lastN ((block, (false, ks, vs, cs), kidN ks key) :: (bi, n', i') :: tl) = lastN ((bi, n', i') :: tl) := by
    unfold lastN
    rw [List.getLast?_cons_cons]
   rw [e]
   obtain ⟨nn, hnn⟩ : ∃ nn, nn = withPairN (lastN ((bi, n', i') :: tl)).2.1 (lastN ((bi, n', i') :: tl)).2.2.1 key val := ⟨_, rfl⟩
   rw [← hnn] at d3 ⊢
   have hQ : withP (Q1 ++ (Qi ++ Q2)) key val = Q1 ++ (withP Qi key val ++ Q2) := by
    refine with_mid (fun q hq => ?_) (fun q hq => ?_) val
    ·
     obtain ⟨j, m, j1, j2, j3⟩ := m5 q hq
     have hz := (g1 m (List.mem_of_getElem? j2)).1
     exact ltB_le (j3.resolve_left (by omega)) (kidN_lt g2 j2 j1)
    ·
     obtain ⟨j, m, j1, j2, j3⟩ := m6 q hq
     exact ltB_le (kidN_ge g2 j2 j1) j3
   rw [hQ]
   rcases d3 with ⟨p1, p2⟩ | ⟨rk, rc, G1, O, N, Bi', p1, t, p3, p4, p5, p6⟩
   ·
    left
    rw [procG, if_neg (by rw [p1]; decide)]
    exact ⟨p1, by omega⟩
   ·
    have hBi : ∀ b ∈ Bi', b ∈ Bi ∨ ¬ G.has b := by
     intro b hb
     rcases (p6 b).1 hb with h | h
     ·
      exact .inl h.1
     ·
      rcases t.fresh b h with h | h
      ·
       exact .inl (p3 b h)
      ·
       exact .inr h.1
    have hOB : ¬ O block := fun h => hnb (by simp [p3 _ h])
    have hO1 : ∀ b ∈ B1, ¬ O b := fun b h1 h2 => n5 b h1 b (by simp [p3 _ h2]) rfl
    have hO2 : ∀ b ∈ B2, ¬ O b := fun b h1 h2 => n4 b (p3 _ h2) b h1 rfl
    have hbl1 : G1.has block := (t.now block).2 (.inl ⟨hbl, hOB⟩)
    have hnC' : (B1 ++ (Bi' ++ B2)).Nodup := by
     rw [List.nodup_append, List.nodup_append]
     refine ⟨n1, ⟨p5, n3, fun a ha b hb' e => ?_⟩, fun a ha b hb' e => ?_⟩
     ·
      subst e
      rcases hBi a ha with h | h
      ·
       exact n4 a h a hb' rfl
      ·
       exact h (hCh a (by simp [hb']))
     ·
      subst e
      rcases List.mem_append.1 hb' with hb' | hb'
      ·
       rcases hBi a hb' with h | h
       ·
        exact n5 a ha a (by simp [h]) rfl
       ·
        exact h (hCh a (by simp [ha]))
      ·
       exact n5 a ha a (by simp [hb']) rfl
    have hnb' : block ∉ B1 ++ (Bi' ++ B2) := by
     intro h
     rcases List.mem_append.1 h with h | h
     ·
      exact hnb (by simp [h])
     ·
      rcases List.mem_append.1 h with h | h
      ·
       rcases hBi block h with h | h
       ·
        exact hnb (by simp [h])
       ·
        exact h hbl
      ·
       exact hnb (by simp [h])
    have hmono : ∀ b l u Q' B', (∀ x ∈ B', x ∈ B1 ∨ x ∈ B2) → TreeOf G.holds ht false b l u Q' B' → TreeOf G1.holds ht false b l u Q' B' := by
     intro b l u Q' B' hb hx
     refine hx.mono fun y hy => ?_
     rcases hb y hy with h | h
     ·
      exact t.holds hk (hCh y (by simp [h])) (hO1 y h)
     ·
      exact t.holds hk (hCh y (by simp [h])) (hO2 y h)
    obtain ⟨ch, hrk, hrkk⟩ := p4.chain
    have chain := m7 (TreeOf G1.holds ht false) rk rc _ Bi' hmono ch
    have hcs : (cs.take (kidN ks key) ++ ([bi] ++ cs.drop (kidN ks key + 1))) = cs := by
     obtain ⟨hi, hie⟩ := List.getElem?_eq_some_iff.1 m1
     rw [← hie, List.singleton_append, ← List.drop_eq_getElem_cons hi, List.take_append_drop]
    by_cases hrc : rc = [bi]
    ·
     right
     have hrk0 : rk = [] := by
      rcases p4 with ⟨b, e1, _, _⟩ | ⟨m, b, c', _, e2, _⟩
      ·
       exact e1
      ·
       rw [hrc] at e2; simp at e2
     subst hrc hrk0
     rw [List.nil_append, List.take_append_drop, hcs] at chain
     refine ⟨[], [block], G1, O, N, block :: (B1 ++ (Bi' ++ B2)), by rw [procG, p1]; simp, t.of (fun _ => Iff.rfl) (fun _ => Iff.rfl) (by omega), fun b h => by simp [p3 b h], .inl ⟨block, rfl, rfl, (false, ks, vs, cs), _, (t.holds hk hbl hOB r).trans h1, h2, rfl, .inr ⟨rfl, a2, chain⟩⟩, List.nodup_cons.2 ⟨hnb', hnC'⟩, fun b => ?_⟩
     simp only [List.mem_cons, List.mem_append, p6]
     constructor
     ·
      rintro (h | h | (⟨h, h'⟩ | h) | h)
      ·
       exact .inl ⟨.inl h, by rw [h]; exact hOB⟩
      ·
       exact .inl ⟨.inr (.inl h), hO1 b h⟩
      ·
       exact .inl ⟨.inr (.inr (.inl h)), h'⟩
      ·
       exact .inr h
      ·
       exact .inl ⟨.inr (.inr (.inr h)), hO2 b h⟩
     ·
      rintro (⟨h | h | h | h, h'⟩ | h)
      ·
       exact .inl h
      ·
       exact .inr (.inl h)
      ·
       exact .inr (.inr (.inl (.inl ⟨h, h'⟩)))
      ·
       exact .inr (.inr (.inr h))
      ·
       exact .inr (.inr (.inl (.inr h)))
    ·
     have e0 : procG ((block, (false, ks, vs, cs), kidN ks key) :: (bi, n', i') :: tl) G nn = replaceG G1 block (withRowN (false, ks, vs, cs) (kidN ks key) (rk, rc)) := by
      rw [procG, p1]
      simp only [if_true]
      rw [if_neg hrc]
     rw [e0]
     have hkeys' : ∀ m ∈ ks.take (kidN ks key) ++ (rk ++ ks.drop (kidN ks key)), keyIn m := by
      intro m hm
      rcases List.mem_append.1 hm with hm | hm
      ·
       exact g1 m (List.mem_of_mem_take hm)
      ·
       rcases List.mem_append.1 hm with hm | hm
       ·
        exact hrkk m hm
       ·
        exact g1 m (List.mem_of_mem_drop hm)
     have hcr := chain_rising (fun b l u Q B h => tree_key (holds_keyed' G1) h) chain (fun m hm => (hkeys' m hm).1)
     have hlen : (ks.take (kidN ks key) ++ (rk ++ ks.drop (kidN ks key))).length = ks.length + rk.length := by
      have := kidN_le ks key
      simp only [List.length_append, List.length_take, List.length_drop]
      omega
     have hal := ((rightA_iff _ _).1 t.ok.alloc).2.2.1
     have hst : standsN (withRowN (false, ks, vs, cs) (kidN ks key) (rk, rc)).1 (withRowN (false, ks, vs, cs) (kidN ks key) (rk, rc)).2.1 (withRowN (false, ks, vs, cs) (kidN ks key) (rk, rc)).2.2.1 (withRowN (false, ks, vs, cs) (kidN ks key) (rk, rc)).2.2.2 = true := by
      unfold withRowN
      refine standsN_iff.2 ⟨by show _ ≤ 9; rw [hlen]; omega, hkeys', hcr.2.1, fun v hv => (by cases hv), fun c' hc' => ?_, shape_inner.2 ⟨rfl, ?_, chain.length⟩⟩
      ·
       have := chain_has chain c' (chain_tops chain c' hc')
       omega
      ·
       show 1 ≤ _
       rw [hlen]
       have := (shape_inner.1 hsh).2.1
       omega
     rcases replace_is (r := r) (ht := ht) (low := low) (high := high) t.ok hbl1 h10 hst (fun hr => by show 4 ≤ (ks.take _ ++ (rk ++ ks.drop _)).length; rw [hlen]; have := hroot.resolve_left (by rw [hr]; decide); omega) (fun x hx => within_of (ltB_asymm (hcr.2.2 x hx).1) (hcr.2.2 x hx).2) (.inr ⟨rfl, a2, chain⟩) hnb' hnC' with ⟨q1, q2⟩ | ⟨rk', rc', G2, N2, B', q1, t2, q3, q4, q5⟩
     ·
      have := t.free
      exact .inl ⟨q1, by omega⟩
     ·
      right
      refine ⟨rk', rc', G2, fun b => O b ∨ b = block, fun b => (N b ∧ ¬ b = block) ∨ N2 b, B', q1, (t.trans t2 (fun b e => by rw [e]; exact hbl1)).of (fun _ => Iff.rfl) (fun _ => Iff.rfl) (by omega), fun b h => ?_, q3, q4, fun b => ?_⟩
      ·
       rcases h with h | h
       ·
        simp [p3 b h]
       ·
        simp [h]
      ·
       rw [q5]
       constructor
       ·
        rintro (h | h)
        ·
         have hne : b ≠ block := fun e => hnb' (e ▸ h)
         rcases List.mem_append.1 h with h | h
         ·
          exact .inl ⟨by simp [h], fun x => x.elim (hO1 b h) hne⟩
         ·
          rcases List.mem_append.1 h with h | h
          ·
           rcases (p6 b).1 h with ⟨h, h'⟩ | h
           ·
            exact .inl ⟨by simp [h], fun x => x.elim h' hne⟩
           ·
            exact .inr (.inl ⟨h, hne⟩)
          ·
           exact .inl ⟨by simp [h], fun x => x.elim (hO2 b h) hne⟩
        ·
         exact .inr (.inr h)
       ·
        rintro (⟨h, h'⟩ | ⟨h, h'⟩ | h)
        ·
         rcases List.mem_cons.1 h with h | h
         ·
          exact absurd (.inr h) h'
         ·
          left
          rcases List.mem_append.1 h with h | h
          ·
           simp [h]
          ·
           rcases List.mem_append.1 h with h | h
           ·
            have : b ∈ Bi' := (p6 b).2 (.inl ⟨h, fun x => h' (.inl x)⟩)
            simp [this]
           ·
            simp [h]
        ·
         left
         have : b ∈ Bi' := (p6 b).2 (.inr h)
         simp [this]
        ·
         exact .inr h
def nextN (rest : List StepS) (row : List ByteArray × List Int) : NodeS := match rest with
 | [] => (false, row.1, [], row.2)
 | p :: _ => withRowN p.2.1 p.2.2 row
def upG (N : Nat) : List StepS → WoodS → NodeS → Int × WoodS
 | [], G, n => if n.2.1.length = 0 then (0, G.withRoot (n.2.2.2.getD 0 0)) else if N = 8 then (81, G) else plantG G n
 | s :: rest, G, n => if (replaceG G s.1 n).1 = 0 ∧ (replaceG G s.1 n).2.1.2 ≠ [s.1] then upG N rest (replaceG G s.1 n).2.2 (nextN rest (replaceG G s.1 n).2.1) else ((replaceG G s.1 n).1, (replaceG G s.1 n).2.2)
theorem up_proc (N : Nat) (n : NodeS) : ∀ (way : List StepS) (s : StepS) (up : List StepS) (G : WoodS), upG N ((s :: way).reverse ++ up) G n = if (procG (s :: way) G n).1 = 0 ∧ (procG (s :: way) G n).2.1.2 ≠ [s.1] then upG N up (procG (s :: way) G n).2.2 (nextN up (procG (s :: way) G n).2.1) else ((procG (s :: way) G n).1, (procG (s :: way) G n).2.2)
 | [], s, up, G => by
  show upG N (s :: up) G n = _
  rw [upG]
  rfl
 | s' :: rest, s, up, G => by
  have e : (s :: s' :: rest).reverse ++ up = (s' :: rest).reverse ++ (s :: up) := by simp
  rw [e, up_proc N n rest s' (s :: up) G]
  by_cases h0 : (procG (s' :: rest) G n).1 = 0
  ·
   by_cases h1 : (procG (s' :: rest) G n).2.1.2 = [s'.1]
   ·
    rw [if_neg (fun h => h.2 h1)]
    have e2 : procG (s :: s' :: rest) G n = (0, ([], [s.1]), (procG (s' :: rest) G n).2.2) := by rw [procG, if_pos h0, if_pos h1]
    rw [e2, if_neg (fun h => h.2 rfl), h0]
   ·
    rw [if_pos ⟨h0, h1⟩]
    have e2 : procG (s :: s' :: rest) G n = replaceG (procG (s' :: rest) G n).2.2 s.1 (withRowN s.2.1 s.2.2 (procG (s' :: rest) G n).2.1) := by rw [procG, if_pos h0, if_neg h1]
    rw [e2, upG]
    rfl
  ·
   rw [if_neg (fun h => h0 h.1)]
   have e2 : procG (s :: s' :: rest) G n = procG (s' :: rest) G n := by rw [procG, if_neg h0]
   rw [e2, if_neg (fun h => h0 h.1)]
def isPairB (key val : ByteArray) : Bool := decide (1 ≤ key.size) && decide (key.size ≤ 32) && decide (val.size ≤ 200)
theorem isPairB_iff {key val : ByteArray} : isPairB key val = true ↔ keyIn key ∧ val.size ≤ 200 := by
 unfold isPairB keyIn
 simp only [Bool.and_eq_true, decide_eq_true_eq]
def putG (G : WoodS) (key val : ByteArray) : Int × WoodS :=
 if isPairB key val = true then
  if G.root = 0 then plantG G (withPairN [] [] key val)
  else if (findS G.holds key 8 G.root ⟨#[]⟩ ⟨#[]⟩).2 = 81 then (81, G)
  else match downG G.holds key 8 G.root true with
   | none => (81, G)
   | some way => upG way.length way.reverse G (withPairN (lastN way).2.1 (lastN way).2.2.1 key val)
 else (1, G)
structure Loose (G G' : WoodS) : Prop where
 base : G'.base = G.base
 gen : G'.gen = G.gen
 len : G'.now.length = G.now.length
 ok : Ok G'
 based : ∀ b, G.counts b → G'.pages[b.toNat]? = G.pages[b.toNat]?
theorem Turn.loose {G G' : WoodS} {O N : Int → Prop} {c : Nat} (t : Turn G G' O N c) : Loose G G' := ⟨t.base, t.gen, t.len, t.ok, t.based⟩
theorem Loose.refl {G : WoodS} (h : Ok G) : Loose G G := ⟨rfl, rfl, rfl, h, fun _ _ => rfl⟩
theorem Loose.trans {G G1 G2 : WoodS} (s : Loose G G1) (t : Loose G1 G2) : Loose G G2 :=
 ⟨t.base.trans s.base, t.gen.trans s.gen, t.len.trans s.len, t.ok, fun b h => (t.based b ((counts_same s.base b).2 h)).trans (s.based b h)⟩
theorem Loose.root {G G' : WoodS} (s : Loose G G') (r : Int) : Loose G (G'.withRoot r) := ⟨s.base, s.gen, s.len, ⟨s.ok.alloc, s.ok.len, s.ok.lo, s.ok.hi, s.ok.room⟩, s.based⟩
theorem lay_loose {G : WoodS} {n : NodeS} (hk : Ok G) : ((layG G n).2.1 = 60 ∨ (layG G n).2.1 = 81) ∨ ((layG G n).2.1 = 0 ∧ 10 ≤ (layG G n).1 ∧ (layG G n).1 < G.now.length ∧ Loose G (layG G n).2.2 ∧ ∀ b, G.has b → (layG G n).2.2.has b) := by
 cases hn : nodeRight n true with
 | false => exact .inl (lay_bad hk hn)
 | true =>
  rcases lay_is hk hn with h | ⟨k, G', h1, h2, h3, _, _, t, _⟩
  ·
   exact .inl (.inl h.1)
  ·
   rw [h1]
   exact .inr ⟨rfl, h2, h3, t.loose, fun b hb => (t.now b).2 (.inl ⟨hb, id⟩)⟩
theorem renew_loose {G : WoodS} {block : Int} {n : NodeS} (hk : Ok G) (hb : G.has block) (h10 : 10 ≤ block) : ((renewG G block n).2.1 = 60 ∨ (renewG G block n).2.1 = 81) ∨ ((renewG G block n).2.1 = 0 ∧ 10 ≤ (renewG G block n).1 ∧ (renewG G block n).1 < G.now.length ∧ Loose G (renewG G block n).2.2 ∧ ∀ b, G.has b → b ≠ block → (renewG G block n).2.2.has b) := by
 cases hn : nodeRight n true with
 | false => exact .inl (renew_bad hk hb h10 hn)
 | true =>
  rcases renew_is hk hb h10 hn with h | ⟨k, G', h1, h2, h3, t, _, _⟩
  ·
   exact .inl (.inl h.1)
  ·
   rw [h1]
   exact .inr ⟨rfl, h2, h3, t.loose, fun b hb hne => (t.now b).2 (.inl ⟨hb, hne⟩)⟩
theorem replace_loose {G : WoodS} {block : Int} {n : NodeS} (hk : Ok G) (hb : G.has block) (h10 : 10 ≤ block) : ((replaceG G block n).1 = 60 ∨ (replaceG G block n).1 = 81) ∨ ((replaceG G block n).1 = 0 ∧ (∃ c cs, (replaceG G block n).2.1.2 = c :: cs ∧ 10 ≤ c ∧ c < G.now.length) ∧ Loose G (replaceG G block n).2.2 ∧ ∀ b, G.has b → b ≠ block → (replaceG G block n).2.2.has b) := by
 unfold replaceG
 split
 ·
  rcases renew_loose (n := n) hk hb h10 with h | ⟨h1, h2, h3, h4, h5⟩
  ·
   exact .inl h
  ·
   exact .inr ⟨h1, ⟨_, _, rfl, h2, h3⟩, h4, h5⟩
 ·
  split
  ·
   split
   ·
    rename_i h0
    rcases renew_loose (n := cutNA n) hk hb h10 with h | ⟨h1, h2, h3, h4, h5⟩
    ·
     rw [h0] at h; omega
    ·
     rcases lay_loose (n := cutNB n) h4.ok with g | ⟨g1, g2, g3, g4, g5⟩
     ·
      exact .inl g
     ·
      exact .inr ⟨g1, ⟨_, _, rfl, h2, h3⟩, h4.trans g4, fun b hb hne => g5 b (h5 b hb hne)⟩
   ·
    rename_i h0
    rcases renew_loose (n := cutNA n) hk hb h10 with h | ⟨h1, _⟩
    ·
     exact .inl h
    ·
     exact absurd h1 h0
  ·
   exact .inl (.inr rfl)
theorem up_loose (N : Nat) : ∀ (up : List StepS) (G : WoodS) (n : NodeS), Ok G → (∀ s ∈ up, G.has s.1 ∧ 10 ≤ s.1) → (up.map (·.1)).Nodup → (up = [] → ∃ c cs, n.2.2.2 = c :: cs ∧ 10 ≤ c ∧ c < G.now.length) →
  ((upG N up G n).1 = 60 ∨ (upG N up G n).1 = 81) ∨ ((upG N up G n).1 = 0 ∧ Loose G (upG N up G n).2 ∧ ((upG N up G n).2.root = G.root ∨ (10 ≤ (upG N up G n).2.root ∧ (upG N up G n).2.root < G.now.length)))
 | [], G, n, hk, _, _, hc => by
  rw [upG]
  split
  ·
   obtain ⟨c, cs, e, h1, h2⟩ := hc rfl
   refine .inr ⟨rfl, (Loose.refl hk).root _, .inr ?_⟩
   show 10 ≤ n.2.2.2.getD 0 0 ∧ n.2.2.2.getD 0 0 < _
   rw [e]
   exact ⟨h1, h2⟩
  ·
   split
   ·
    exact .inl (.inr rfl)
   ·
    unfold plantG
    rcases lay_loose (n := n) hk with h | ⟨h1, h2, h3, h4, _⟩
    ·
     exact .inl h
    ·
     exact .inr ⟨h1, h4.root _, .inr ⟨h2, h3⟩⟩
 | s :: rest, G, n, hk, hh, hn, _ => by
  rw [upG]
  obtain ⟨hb, h10⟩ := hh s (by simp)
  rw [List.map_cons, List.nodup_cons] at hn
  rcases replace_loose (n := n) hk hb h10 with h | ⟨h1, ⟨c, cs, e, h2, h3⟩, h4, h5⟩
  ·
   rw [if_neg (fun x => by have := x.1; omega)]
   exact .inl h
  ·
   split
   ·
    have ih := up_loose N rest (replaceG G s.1 n).2.2 (nextN rest (replaceG G s.1 n).2.1) h4.ok (fun x hx => ⟨h5 _ (hh x (by simp [hx])).1 (fun e => hn.1 (by rw [← e]; exact List.mem_map_of_mem hx)), (hh x (by simp [hx])).2⟩) hn.2 (fun er => ⟨c, cs, by rw [er]; exact e, h2, by rw [h4.len]; exact h3⟩)
    rcases ih with h | ⟨g1, g2, g3⟩
    ·
     exact .inl h
    ·
     refine .inr ⟨g1, h4.trans g2, ?_⟩
     rw [h4.len] at g3
     rcases g3 with g3 | g3
     ·
      left
      rw [g3]
      have : (replaceG G s.1 n).2.2.root = G.root := by
       unfold replaceG
       have rl : ∀ (G : WoodS) n, (layG G n).2.2.root = G.root := by
        intro G n; unfold layG; split
        ·
         unfold writeG; split <;> rfl
        ·
         rfl
       have rr : ∀ (G : WoodS) b n, (renewG G b n).2.2.root = G.root := by
        intro G b n; unfold renewG; split
        ·
         unfold writeG; split <;> rfl
        ·
         rw [rl]; rfl
       split
       ·
        exact rr _ _ _
       ·
        split
        ·
         split
         ·
          rw [rl, rr]
         ·
          exact rr _ _ _
        ·
         rfl
      rw [this]
     ·
      exact .inr g3
   ·
    refine .inr ⟨h1, h4, .inl ?_⟩
    have rl : ∀ (G : WoodS) n, (layG G n).2.2.root = G.root := by
     intro G n; unfold layG; split
     ·
      unfold writeG; split <;> rfl
     ·
      rfl
    have rr : ∀ (G : WoodS) b n, (renewG G b n).2.2.root = G.root := by
     intro G b n; unfold renewG; split
     ·
      unfold writeG; split <;> rfl
     ·
      rw [rl]; rfl
    unfold replaceG
    split
    ·
     exact rr _ _ _
    ·
     split
     ·
      split
      ·
       rw [rl, rr]
      ·
       exact rr _ _ _
     ·
      rfl
theorem down_det {G : WoodS} {key : ByteArray} : ∀ (k k' : Nat) (b : Int) (r r' : Bool) (w1 w2 : List StepS), downG G.holds key k b r = some w1 → downG G.holds key k' b r' = some w2 → w1 = w2
 | 0, _, _, _, _, _, _, h, _ => by cases h
 | _ + 1, 0, _, _, _, _, _, _, h => by cases h
 | k + 1, k' + 1, b, r, r', w1, w2, h1, h2 => by
  have same : ∀ {n n' : NodeS}, G.holds b r = some n → G.holds b r' = some n' → n = n' := by
   intro n n' g1 g2
   unfold WoodS.holds holdsS at g1 g2
   split at g1
   ·
    rename_i hc
    rw [if_pos hc] at g2
    unfold pageN at g1 g2
    split at g1
    ·
     split at g2
     ·
      cases g1; cases g2; rfl
     ·
      cases g2
    ·
     cases g1
   ·
    cases g1
  cases hn : G.holds b r with
  | none => rw [downG, hn] at h1; cases h1
  | some n =>
   cases hn' : G.holds b r' with
   | none => rw [downG, hn'] at h2; cases h2
   | some n' =>
    obtain rfl := same hn hn'
    rw [downG_at hn] at h1
    rw [downG_at hn'] at h2
    split at h1
    ·
     rename_i hl
     rw [if_pos hl] at h2
     cases h1; cases h2; rfl
    ·
     rename_i hl
     rw [if_neg hl] at h2
     obtain ⟨x1, e1, rfl⟩ := Option.map_eq_some_iff.1 h1
     obtain ⟨x2, e2, rfl⟩ := Option.map_eq_some_iff.1 h2
     rw [down_det k k' _ _ _ x1 x2 e1 e2]
theorem down_way {G : WoodS} {key : ByteArray} : ∀ (k : Nat) (b : Int) (r : Bool) (w : List StepS), downG G.holds key k b r = some w → (∃ n i tl, w = (b, n, i) :: tl) ∧ (w.map (·.1)).Nodup ∧ (∀ s ∈ w, G.has s.1 ∧ 10 ≤ s.1) ∧ (∀ s ∈ w, ∃ k' r' w', downG G.holds key k' s.1 r' = some w' ∧ w'.length ≤ w.length)
 | 0, _, _, _, h => by cases h
 | k + 1, b, r, w, h => by
  cases hn : G.holds b r with
  | none => rw [downG, hn] at h; cases h
  | some n =>
   have h0 := h
   rw [downG_at hn] at h
   obtain ⟨hb, h10, _⟩ := holds_has hn
   split at h
   ·
    cases h
    refine ⟨⟨_, _, _, rfl⟩, by simp, fun s hs => ?_, fun s hs => ?_⟩
    ·
     simp at hs; subst hs; exact ⟨hb, h10⟩
    ·
     simp at hs; subst hs; exact ⟨k + 1, r, _, h0, Nat.le_refl _⟩
   ·
    obtain ⟨x, e, rfl⟩ := Option.map_eq_some_iff.1 h
    obtain ⟨_, i2, i3, i4⟩ := down_way k _ _ x e
    refine ⟨⟨_, _, _, rfl⟩, ?_, fun s hs => ?_, fun s hs => ?_⟩
    ·
     rw [List.map_cons, List.nodup_cons]
     refine ⟨fun hm => ?_, i2⟩
     obtain ⟨s, hs, es⟩ := List.mem_map.1 hm
     obtain ⟨k', r', w', g1, g2⟩ := i4 s hs
     have es' : s.1 = b := es
     rw [es'] at g1
     have := down_det _ _ _ _ _ _ _ g1 h0
     rw [this] at g2
     simp at g2
     omega
    ·
     rcases List.mem_cons.1 hs with rfl | hs
     ·
      exact ⟨hb, h10⟩
     ·
      exact i3 s hs
    ·
     rcases List.mem_cons.1 hs with rfl | hs
     ·
      exact ⟨k + 1, r, _, h0, Nat.le_refl _⟩
     ·
      obtain ⟨k', r', w', g1, g2⟩ := i4 s hs
      exact ⟨k', r', w', g1, by simp; omega⟩
theorem put_loose {G : WoodS} (hr : G.right = true) (key val : ByteArray) : ((putG G key val).1 = 1 ∧ isPairB key val = false) ∨ isPairB key val = true ∧ (((putG G key val).1 = 60 ∨ (putG G key val).1 = 81) ∨ ((putG G key val).1 = 0 ∧ (putG G key val).2.right = true ∧ Loose G (putG G key val).2)) := by
 obtain ⟨hk, hroot⟩ := right_ok.1 hr
 cases hp : isPairB key val with
 | false => left; unfold putG; rw [hp]; exact ⟨rfl, rfl⟩
 | true =>
  right
  refine ⟨rfl, ?_⟩
  unfold putG
  rw [if_pos hp]
  split
  ·
   unfold plantG
   rcases lay_loose (n := withPairN [] [] key val) hk with h | ⟨h1, h2, h3, h4, _⟩
   ·
    exact .inl h
   ·
    have := h4.root (layG G (withPairN [] [] key val)).1
    exact .inr ⟨h1, right_ok.2 ⟨this.ok, .inr ⟨h2, by rw [this.len]; exact h3⟩⟩, this⟩
  ·
   split
   ·
    exact .inl (.inr rfl)
   ·
    split
    ·
     exact .inl (.inr rfl)
    ·
     rename_i way hw
     obtain ⟨⟨n, i, tl, e⟩, h1, h2, _⟩ := down_way 8 _ _ way hw
     rcases up_loose way.length way.reverse G (withPairN (lastN way).2.1 (lastN way).2.2.1 key val) hk (fun s hs => h2 s (List.mem_reverse.1 hs)) (by rw [List.map_reverse]; exact (List.reverse_perm _).nodup_iff.2 h1) (fun er => by rw [e] at er; simp at er) with h | ⟨g1, g2, g3⟩
     ·
      exact .inl h
     ·
      refine .inr ⟨g1, right_ok.2 ⟨g2.ok, ?_⟩, g2⟩
      rw [g2.len]
      rcases g3 with g3 | g3
      ·
       rw [g3]; exact hroot
      ·
       exact .inr g3
structure KeepsG (G G' : WoodS) (old new : List Int) : Prop where
 base : G'.base = G.base
 gen : G'.gen = G.gen
 len : G'.now.length = G.now.length
 plen : G'.pages.length = G.pages.length
 now : ∀ b, G'.has b ↔ (G.has b ∧ b ∉ old) ∨ b ∈ new
 based : ∀ b, G.counts b → G'.pages[b.toNat]? = G.pages[b.toNat]?
 gens : ∀ b ∈ new, (b ∈ old ∧ G'.pages[b.toNat]? = G.pages[b.toNat]?) ∨ G'.newPage b
theorem Turn.keeps {G G' : WoodS} {O N : Int → Prop} {c : Nat} (t : Turn G G' O N c) (hk : Ok G) {B B' : List Int} (hB : ∀ b ∈ B, G.has b) (hO : ∀ b, O b → b ∈ B) (hm : ∀ b, b ∈ B' ↔ (b ∈ B ∧ ¬ O b) ∨ N b) (r : Int) : KeepsG G (G'.withRoot r) B B' := by
 have w := t.widen (fun b => b ∈ B ∧ ¬ O b) (fun b h => ⟨hB b h.1, h.2⟩)
 have e1 : ∀ b, (O b ∨ (b ∈ B ∧ ¬ O b)) ↔ b ∈ B := fun b => ⟨fun h => h.elim (hO b) And.left, fun h => (Classical.em (O b)).imp id fun x => ⟨h, x⟩⟩
 have e2 : ∀ b, (N b ∨ (b ∈ B ∧ ¬ O b)) ↔ b ∈ B' := fun b => by rw [hm]; exact Or.comm
 refine ⟨t.base, t.gen, t.len, t.plen hk, fun b => ?_, t.based, fun b hb => ?_⟩
 ·
  have h1 := w.now b
  rw [e1, e2] at h1
  exact h1
 ·
  rcases w.gens b ((e2 b).2 hb) with ⟨h1, h2⟩ | h1
  ·
   exact .inl ⟨(e1 b).1 h1, h2⟩
  ·
   exact .inr h1
theorem tree_root {G : WoodS} {r : Int} {ht : Nat} {Q : List (ByteArray × ByteArray)} {B : List Int} (hr : r ≠ 0) (h8 : ht ≤ 8) (h : TreeOf G.holds ht true r ⟨#[]⟩ ⟨#[]⟩ Q B) (hn : B.Nodup) : (G.withRoot r).tree = ⟨Q, B, ht, false⟩ := by
 show treeS G.now G.pages r G.gen = _
 unfold treeS
 rw [if_neg hr]
 have := tree_below ht 8 TreeS.none r ⟨#[]⟩ ⟨#[]⟩ Q B h8 (Nat.le_refl _) (by rw [decide_eq_true (show (8 : Nat) = 8 from rfl)]; exact h) rfl (.inl rfl) hn (fun b _ hm => by simp [TreeS.none] at hm)
 show belowS (holdsS G.now G.pages G.gen) 8 TreeS.none r ⟨#[]⟩ ⟨#[]⟩ = _
 have e : (holdsS G.now G.pages G.gen) = G.holds := rfl
 rw [e, this]
 simp [TreeS.none]
theorem root_tree {G : WoodS} (hr : G.root ≠ 0) (h : G.tree.bad = false) : ∃ ht Q B, 1 ≤ ht ∧ ht ≤ 8 ∧ TreeOf G.holds ht true G.root ⟨#[]⟩ ⟨#[]⟩ Q B ∧ B.Nodup ∧ G.tree = ⟨Q, B, ht, false⟩ := by
 have e : G.tree = belowS G.holds 8 TreeS.none G.root ⟨#[]⟩ ⟨#[]⟩ := by
  show treeS _ _ _ _ = _
  unfold treeS
  rw [if_neg hr]
  rfl
 rw [e] at h
 obtain ⟨_, ht, Q, B, h1, h2, h3, h4, _, _, h5⟩ := below_tree (holds_ing' G) 8 TreeS.none G.root ⟨#[]⟩ ⟨#[]⟩ (Nat.le_refl _) h
 refine ⟨ht, Q, B, h1, h2, ?_, h4, ?_⟩
 ·
  rw [decide_eq_true (show (8 : Nat) = 8 from rfl)] at h3; exact h3
 ·
  rw [e, h5]
  simp [TreeS.none]
theorem tree_high {G : WoodS} {ht : Nat} {b : Int} {l u : ByteArray} {Q : List (ByteArray × ByteArray)} {B : List Int} (h : TreeOf G.holds ht true b l u Q B) (hn : B.Nodup) {N : Nat} (hN : G.now.length ≤ N) (h1 : 1 ≤ ht) : 1 + 2 * leastB (ht - 1) ≤ N := by
 obtain ⟨h', rfl⟩ : ∃ h', ht = h' + 1 := ⟨ht - 1, by omega⟩
 have h2 := root_least (holds_wide G) h
 have h3 := nodup_le G.now.length B hn (fun x hx => by have := tree_has h x hx; omega)
 rw [Nat.add_sub_cancel]
 omega
theorem least6 {h : Nat} (hl : 1 + 2 * leastB h ≤ 2048) : h < 7 := by
 refine Nat.lt_of_not_le fun hh => ?_
 have := leastB_mono hh
 have e : leastB 7 = 19531 := by decide
 omega
theorem none_within (key : ByteArray) : withinS key ⟨#[]⟩ ⟨#[]⟩ = true := within_of (ltB_none key) (.inl rfl)
theorem withPair_nil (key val : ByteArray) : withPairN [] [] key val = (true, [key], [val], []) := rfl
theorem put_tree {G : WoodS} (hr : G.right = true) (hb : G.tree.bad = false) {key val : ByteArray} (hp : isPairB key val = true) :
  ((putG G key val).1 = 60 ∧ (G.free : Int) < 2 * G.tree.height + 1) ∨ ∃ G', putG G key val = (0, G') ∧ G'.right = true ∧ G'.tree.bad = false ∧ G'.tree.pairs = withP G.tree.pairs key val ∧ KeepsG G G' G.tree.blocks G'.tree.blocks := by
 obtain ⟨hk, hroot⟩ := right_ok.1 hr
 obtain ⟨hkey, hval⟩ := isPairB_iff.1 hp
 have hrt : ∀ G', putG G key val = (0, G') → G'.right = true := by
  intro G' e
  rcases put_loose hr key val with h | ⟨_, h | h⟩
  ·
   rw [e] at h; have h1 : (0 : Int) = 1 := h.1; omega
  ·
   rw [e] at h
   have h1 : (0 : Int) = 60 ∨ (0 : Int) = 81 := h
   omega
  ·
   rw [e] at h; exact h.2.1
 by_cases h0 : G.root = 0
 ·
  have ht0 : G.tree = TreeS.none := by show treeS _ _ _ _ = _; unfold treeS; rw [if_pos h0]
  have hone : nodeRight (withPairN [] [] key val) true = true := by
   rw [withPair_nil]
   refine rightN_iff.2 ⟨standsN_iff.2 ⟨by simp, fun x hx => by simp at hx; rw [hx]; exact hkey, rfl, fun v hv => by simp at hv; rw [hv]; exact hval, fun c hc => (by cases hc), rfl⟩, by simp, .inl rfl⟩
  have e0 : putG G key val = plantG G (withPairN [] [] key val) := by unfold putG; rw [if_pos hp, if_pos h0]
  rcases lay_is hk hone with ⟨h1, h2⟩ | ⟨k, G1, h1, h2, h3, h4, h5, t, hh⟩
  ·
   left
   rw [e0, ht0]
   exact ⟨h1, by rw [h2]; decide⟩
  ·
   right
   have e1 : putG G key val = (0, G1.withRoot k) := by rw [e0]; unfold plantG; rw [h1]
   have hT : TreeOf G1.holds 1 true k ⟨#[]⟩ ⟨#[]⟩ [(key, val)] [k] := ⟨_, [], hh true hone, fun x _ => none_within x, rfl, .inl ⟨rfl, rfl, (by rw [withPair_nil]; simp), (by rw [withPair_nil]; rfl), rfl⟩⟩
   have e2 := tree_root (by omega) (by omega) hT (by simp)
   refine ⟨_, e1, hrt _ e1, by rw [e2], by rw [e2, ht0]; rfl, ?_⟩
   rw [e2, ht0]
   exact t.keeps hk (fun b hb => by cases hb) (fun b hb => hb.elim) (fun b => by simp [TreeS.none]) k
 ·
  obtain ⟨ht, Q, B, b1, b2, hT, hn, e⟩ := root_tree h0 hb
  have hal := ((rightA_iff _ _).1 hk.alloc).2.2.1
  have h7 := least6 (tree_high hT hn hal b1)
  obtain ⟨n, i, tl, d1, d2, d3⟩ := ins_is hkey hval ht G true G.root ⟨#[]⟩ ⟨#[]⟩ Q B 8 hk hT hn b2 (none_within key)
  have hfind : (findS G.holds key 8 G.root ⟨#[]⟩ ⟨#[]⟩).2 ≠ 81 := by
   rw [findS_sub (holds_ing' G) (holds_keyed' G) key (TreeOf.sub ht 8 _ _ _ Q B b2 (Nat.le_refl _) (by rw [decide_eq_true (show (8 : Nat) = 8 from rfl)]; exact hT) hn)]
   intro h
   have : ∀ L : List (ByteArray × ByteArray), (getP L key).2 = 0 ∨ (getP L key).2 = 80 := by
    intro L
    induction L with
    | nil => exact .inr rfl
    | cons p L ih =>
     rw [getP]
     split
     ·
      exact .inl rfl
     ·
      exact ih
   rcases this Q with h' | h' <;> rw [h'] at h <;> exact absurd h (by decide)
  have hup := up_proc ((G.root, n, i) :: tl).length (withPairN (lastN ((G.root, n, i) :: tl)).2.1 (lastN ((G.root, n, i) :: tl)).2.2.1 key val) tl (G.root, n, i) [] G
  rw [List.append_nil] at hup
  have e0 : putG G key val = upG ((G.root, n, i) :: tl).length ((G.root, n, i) :: tl).reverse G (withPairN (lastN ((G.root, n, i) :: tl)).2.1 (lastN ((G.root, n, i) :: tl)).2.2.1 key val) := by
   unfold putG
   rw [if_pos hp, if_neg h0, if_neg hfind, d1]
  rw [hup] at e0
  have hB : ∀ b ∈ B, G.has b := fun b h => (tree_has hT b h).1
  rw [e]
  rcases d3 with ⟨p1, p2⟩ | ⟨rk, rc, G1, O, N, B', p1, t, p3, p4, p5, p6⟩
  ·
   left
   rw [if_neg (fun h => by rw [p1] at h; exact absurd h.1 (by decide))] at e0
   rw [e0]
   exact ⟨p1, by show (G.free : Int) < 2 * (ht : Int) + 1; omega⟩
  ·
   rw [p1] at e0
   simp only at e0
   by_cases hrc : rc = [G.root]
   ·
    right
    rw [if_neg (fun h => h.2 hrc)] at e0
    rcases p4 with ⟨b, r1, r2, hT'⟩ | ⟨m, b, c, _, r2, _⟩
    ·
     obtain rfl : b = G.root := by rw [hrc] at r2; simpa using r2.symm
     have e2 := tree_root h0 b2 hT' p5
     have e3 : G1.withRoot G.root = G1 := by rw [← t.root]; rfl
     rw [e3] at e2
     refine ⟨G1, e0, hrt _ e0, by rw [e2], by rw [e2], ?_⟩
     rw [e2, ← e3]
     exact t.keeps hk hB p3 p6 _
    ·
     rw [hrc] at r2; simp at r2
   ·
    rw [if_pos ⟨trivial, hrc⟩] at e0
    have e1 : upG ((G.root, n, i) :: tl).length [] G1 (nextN [] (rk, rc)) = if rk.length = 0 then (0, G1.withRoot (rc.getD 0 0)) else plantG G1 (false, rk, [], rc) := by
     rw [upG]
     show (if rk.length = 0 then _ else _) = _
     split
     ·
      rfl
     ·
      rw [if_neg (by rw [d2]; omega)]
      rfl
    rw [e1] at e0
    rcases p4 with ⟨b, r1, r2, hT'⟩ | ⟨m, b, c, r1, r2, hm, hch⟩
    ·
     right
     subst r1 r2
     have e0' : putG G key val = (0, G1.withRoot b) := e0
     have hb10 := (tree_has hT' b (tree_top hT')).2.1
     have e2 := tree_root (by omega) b2 hT' p5
     refine ⟨_, e0', hrt _ e0', by rw [e2], by rw [e2], ?_⟩
     rw [e2]
     exact t.keeps hk hB p3 p6 _
    ·
     subst r1 r2
     rw [if_neg (by simp)] at e0
     have hch10 := chain_has hch
     have hal1 := ((rightA_iff _ _).1 t.ok.alloc).2.2.1
     have hright : nodeRight (false, [m], [], [b, c]) true = true := by
      refine rightN_iff.2 ⟨standsN_iff.2 ⟨by simp, fun x hx => by simp at hx; rw [hx]; exact hm, rfl, fun v hv => (by cases hv), fun x hx => ?_, rfl⟩, by simp, .inl rfl⟩
      have := hch10 x (chain_tops hch x hx)
      omega
     rcases lay_is t.ok hright with ⟨q1, q2⟩ | ⟨k, G2, q1, q2, q3, q4, q5, t2, hh⟩
     ·
      left
      rw [e0]
      refine ⟨q1, ?_⟩
      have := t.free
      show (G.free : Int) < 2 * (ht : Int) + 1
      omega
     ·
      right
      have e0' : putG G key val = (0, G2.withRoot k) := by rw [e0]; unfold plantG; rw [q1]
      have hT2 : TreeOf G2.holds (ht + 1) true k ⟨#[]⟩ ⟨#[]⟩ (withP Q key val) (k :: B') := by
       refine ⟨_, B', hh true hright, fun x _ => none_within x, rfl, .inr ⟨rfl, by omega, hch.mono fun b' l u Q' B'' hx hy => hy.mono fun y hy' r => t2.holds t.ok (hch10 y (hx y hy')).1 id r⟩⟩
      have hkB : k ∉ B' := fun h => q4 (hch10 k h).1
      have e2 := tree_root (by omega) (by omega) hT2 (List.nodup_cons.2 ⟨hkB, p5⟩)
      refine ⟨_, e0', hrt _ e0', by rw [e2], by rw [e2], ?_⟩
      rw [e2]
      have tt := (t.trans t2 fun b h => h.elim).of (O' := O) (N' := fun b => N b ∨ b = k) (fun b => ⟨fun h => h.resolve_right id, .inl⟩) (fun b => ⟨fun h => h.imp And.left id, fun h => h.imp (fun x => ⟨x, id⟩) id⟩) (Nat.le_refl _)
      refine tt.keeps hk hB p3 (fun b => ?_) k
      rw [List.mem_cons, p6]
      constructor
      ·
       rintro (h | h | h)
       ·
        exact .inr (.inr h)
       ·
        exact .inl h
       ·
        exact .inr (.inl h)
      ·
       rintro (h | h | h)
       ·
        exact .inr (.inl h)
       ·
        exact .inr (.inr h)
       ·
        exact .inl h
end Go.Proofs.YtaecfbfcjaailaaGreat

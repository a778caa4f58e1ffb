/-
  Texts laid together: NodeJoined NodePart NodeCutting NodeCuttingI NodeCutAll LookOrder LookFacts LookSearch LookWay GrowPlain GrowTree GrowModel GrowIns GrowSpec GrowPutP LookOwn LookLaw NodeLike NodeIn LookRightsOf PageWant LookLoad GrowConcat GrowMem GrowClone GrowBox.
-/
import Derived.Test.YtaecfbfcjaailaaGreatBlA
import Derived.Deep.AppendLies
import Derived.Lib.AppendZeros
import Derived.Test.YtaecfbfcjaailaaGreatBlB
import Derived.Test.YtaecfbfcjaailaaGreatBlC
import Derived.Deep.RegionHeld3
import Derived.Maps.RangeWalk
namespace Go.Proofs.YtaecfbfcjaailaaGreat
open Go.RowKit Plain
set_option linter.unusedVariables false
theorem append_nil {w : World} (base : Nat) (t ty e : TypeId) (i : TypeInfo) (size m c : Nat) (hm : m = 0) (ht : Tryz.prog.underlying t = some (.slice e)) (hi : Tryz.prog.info? e = some i)
  (v : Value) (n : Nat) (xs : List Value) (hown : w.ownsRow base e size v n xs) :
  (Builtin.append_ #[t, t] ty #[v, .slice none m c]).run Tryz.prog w = .ok v w := by
 subst hm
 rcases hown.2 with ⟨rfl, rfl⟩ | ⟨g, cap, cur, rfl, _, _, hnc, _⟩
 ·
  simp [Builtin.append_, run_underlying ht, sizeOf, typeInfo, hi, Builtin.lenOf, Builtin.firstCells]
 ·
  simp [Builtin.append_, run_underlying ht, sizeOf, typeInfo, hi, Builtin.lenOf, Builtin.firstCells, hnc, storeCells]
theorem IsS.none {w : World} {c : Nat} {l : List ByteArray} (h : IsS w none c l) : l = [] := by
 rcases Nat.eq_zero_or_pos l.length with h0 | h0
 ·
  exact List.length_eq_zero_iff.1 h0
 ·
  obtain ⟨b, o, hh, _⟩ := h.2.2 0 l[0] (List.getElem?_eq_getElem h0)
  cases hh
theorem IsI.none {w : World} {c : Nat} {l : List Int} (h : IsI w none c l) : l = [] := by
 rcases Nat.eq_zero_or_pos l.length with h0 | h0
 ·
  exact List.length_eq_zero_iff.1 h0
 ·
  obtain ⟨b, o, hh, _⟩ := h.2.2 0 l[0] (List.getElem?_eq_getElem h0)
  cases hh
theorem grown_refl (w : World) (r : Option Nat) : w.grownBy w r := ⟨rfl, rfl, rfl, Nat.le_refl _, fun _ _ _ => rfl⟩
theorem append_S (W : World) (base : Nat) (v : Value) (n : Nat) (l : List ByteArray) (hown : W.ownsRow base 9 1 v n (l.map Value.string)) (hb : base ≤ W.heap.size) (a : Option Addr) (c m : Nat) (ys : List ByteArray) (hm : m = ys.length) (hY : IsS W a c ys) (hn : n + m ≤ 4096) :
  ∃ v' w', (Builtin.append_ #[25, 25] 25 #[v, .slice a m c]).run Tryz.prog W = .ok v' w' ∧
   w'.ownsRow base 9 1 v' (n + m) ((l ++ ys).map Value.string) ∧ W.grownBy w' v.ownBlock ∧ (v'.ownBlock = v.ownBlock ∨ v'.ownBlock = some W.heap.size) := by
 obtain ⟨i0, hi, hz0, hz1, hz2⟩ := info_parts Tryz.info9
 cases a with
 | none =>
  have h0 := hY.none
  subst h0
  have hm0 : m = 0 := hm
  refine ⟨v, W, append_nil base _ _ _ i0 1 m c hm0 Tryz.underlying25 hi _ _ _ hown, ?_, grown_refl _ _, .inl rfl⟩
  rw [hm0, List.append_nil]; exact hown
 | some ad =>
  obtain ⟨v', w', hr, h2, h3, h4, h5⟩ := run_append_own_at (P := Tryz.prog) W base 25 25 9 i0 _ 1 16 Tryz.underlying25 hi hz0 hz1 hz2 rfl (by decide) v n (l.map Value.string) hown ad m c (ys.map Value.string) (by simp [hm])
   (by
    intro j u hj
    rw [List.getElem?_map] at hj
    cases hx : ys[j]? with
    | none => rw [hx] at hj; cases hj
    | some x =>
     rw [hx] at hj
     cases hj
     obtain ⟨b, o, hh, _, hc, _⟩ := hY.2.2 j x hx
     cases hh
     rw [at_add]; exact hc)
   (fun u hu => by obtain ⟨x, _, rfl⟩ := List.mem_map.1 hu; rfl) (by unfold maxLen; omega) (by omega) hb
  exact ⟨v', w', hr, by rw [List.map_append]; exact h2, h3, h5⟩
theorem append_I (W : World) (base : Nat) (v : Value) (n : Nat) (l : List Int) (hown : W.ownsRow base 3 1 v n (l.map (Value.int .i64))) (hb : base ≤ W.heap.size) (a : Option Addr) (c m : Nat) (ys : List Int) (hm : m = ys.length) (hY : IsI W a c ys) (hn : n + m ≤ 4096) :
  ∃ v' w', (Builtin.append_ #[38, 38] 38 #[v, .slice a m c]).run Tryz.prog W = .ok v' w' ∧
   w'.ownsRow base 3 1 v' (n + m) ((l ++ ys).map (Value.int .i64)) ∧ W.grownBy w' v.ownBlock ∧ (v'.ownBlock = v.ownBlock ∨ v'.ownBlock = some W.heap.size) := by
 obtain ⟨i0, hi, hz0, hz1, hz2⟩ := info_parts Tryz.info3
 cases a with
 | none =>
  have h0 := hY.none
  subst h0
  have hm0 : m = 0 := hm
  refine ⟨v, W, append_nil base _ _ _ i0 1 m c hm0 Tryz.underlying38 hi _ _ _ hown, ?_, grown_refl _ _, .inl rfl⟩
  rw [hm0, List.append_nil]; exact hown
 | some ad =>
  obtain ⟨v', w', hr, h2, h3, h4, h5⟩ := run_append_own_at (P := Tryz.prog) W base 38 38 3 i0 _ 1 8 Tryz.underlying38 hi hz0 hz1 hz2 rfl (by decide) v n (l.map (Value.int .i64)) hown ad m c (ys.map (Value.int .i64)) (by simp [hm])
   (by
    intro j u hj
    rw [List.getElem?_map] at hj
    cases hx : ys[j]? with
    | none => rw [hx] at hj; cases hj
    | some x =>
     rw [hx] at hj
     cases hj
     obtain ⟨b, o, hh, _, hc⟩ := hY.2.2 j x hx
     cases hh
     rw [at_add]; exact hc)
   (fun u hu => by obtain ⟨x, _, rfl⟩ := List.mem_map.1 hu; rfl) (by unfold maxLen; omega) (by omega) hb
  exact ⟨v', w', hr, by rw [List.map_append]; exact h2, h3, h5⟩
def RowsS (w : World) (H : Nat) (rs : List (Option Addr × Nat × List ByteArray)) : Prop :=
 ∀ i r, rs[i]? = some r → w.cell? ⟨H, i, none⟩ = some (.slice r.1 r.2.2.length r.2.1) ∧ IsS w r.1 r.2.1 r.2.2
def flatS (rs : List (Option Addr × Nat × List ByteArray)) : List ByteArray := rs.flatMap fun r => r.2.2
theorem flatS_take {rs : List (Option Addr × Nat × List ByteArray)} {i : Nat} {r : Option Addr × Nat × List ByteArray} (h : rs[i]? = some r) : flatS (rs.take (i + 1)) = flatS (rs.take i) ++ r.2.2 := by
 unfold flatS
 rw [List.take_add_one, h, List.flatMap_append]
 simp
theorem flatS_le (rs : List (Option Addr × Nat × List ByteArray)) (i : Nat) : (flatS (rs.take i)).length ≤ (flatS rs).length := by
 have e : flatS rs = flatS (rs.take i) ++ flatS (rs.drop i) := by
  unfold flatS
  rw [← List.flatMap_append, List.take_append_drop]
 rw [e, List.length_append]; omega
set_option maxRecDepth 20000 in
set_option maxHeartbeats 1000000 in
theorem joinedS_any (H k n : Nat) (rs : List (Option Addr × Nat × List ByteArray)) (w : World) (hR : RowsS w H rs) (hk : k = rs.length) (hl : (flatS rs).length ≤ 4096) (hk9 : k ≤ 9) (hn : n = (flatS rs).length) :
  Calls Tryz.prog 129 #[.slice (some ⟨H, 0, none⟩) k k] w fun e w' => ∃ a c, e = .returned (.slice a n c) ∧ IsS w' a c (flatS rs) ∧ From w.heap.size a ∧ Below w.heap.size w w' := by
 have HR : Hid (RowsS w H rs) := hR
 have HK : Hid (k = rs.length) := hk
 have HL : Hid ((flatS rs).length ≤ 4096) := hl
 have HN : Hid (n = (flatS rs).length) := hn
 clear hR hk hl hn
 go_enter Tryz.func129, Tryz.ntmps129
 go_wp2
 go_loopw [3, 8] (fun v i wr => ∃ j : Nat, j ≤ k ∧ i = .int .i64 j ∧ wr.ownsRow w.heap.size 9 1 v (flatS (rs.take j)).length ((flatS (rs.take j)).map Value.string) ∧ Below w.heap.size w wr) (fun _ i _ => k - (intOf i).toNat)
 case atStart => exact ⟨0, by omega, rfl, World.ownsRow_nil _ _ _ _, Below.refl _ _⟩
 case round =>
  obtain ⟨j, hj, rfl, hown, hbel⟩ := hrel
  by_cases hlt : j < k
  ·
   have hlt' : (j : Int) < k := by omega
   obtain ⟨r, hr⟩ : ∃ r, rs[j]? = some r := ⟨_, List.getElem?_eq_getElem (by rw [← HK.out]; exact hlt)⟩
   obtain ⟨hc0, hI⟩ := HR.out j r hr
   have hc := cell_below hbel hc0
   obtain ⟨a, c, ys⟩ := r
   have hf := flatS_take hr
   have hle := flatS_le rs (j + 1)
   simp only at hc hI hf
   have hle2 := HL.out
   obtain ⟨v', w', hrun, hown', hgr, _⟩ := append_S wr w.heap.size _ _ _ hown hbel.size a c ys.length ys rfl (hI.below hbel) (by rw [hf, List.length_append] at hle; omega)
   have HO : Hid (w'.ownsRow w.heap.size 9 1 v' (flatS (rs.take (j + 1))).length ((flatS (rs.take (j + 1))).map Value.string)) := by
    show World.ownsRow _ _ _ _ _ _ _
    rw [hf, List.length_append]; exact hown'
   have HB : Hid (Below w.heap.size w w') := hbel.grown hgr hbel.size fun g hg => (hown.lt g hg).1
   clear hown hown' hgr hr hc0 hI hf hle hle2 hbel
   go_wp2_with (at_builtin; refine Lib.wpList_append_run _ rfl _ _ _ _ rfl _ _ rfl rfl _ _ hrun ?_)
   go_roundw
   case rel => exact ⟨j + 1, by omega, by go_num, HO.out, HB.out⟩
   case measure => simp [intOf]; omega
  ·
   obtain rfl : j = k := by omega
   have ht : rs.take j = rs := List.take_of_length_le (by rw [← HK.out]; exact Nat.le_refl _)
   rw [ht] at hown
   obtain ⟨a, c, rfl, hn, hI, hF⟩ := owns_S hown (fun x hx => by
    obtain ⟨r, hr, hx⟩ := List.mem_flatMap.1 hx
    obtain ⟨i, hi⟩ := List.getElem?_of_mem hr
    obtain ⟨q, hq⟩ := List.getElem?_of_mem hx
    obtain ⟨_, _, _, _, _, hs⟩ := (HR.out i r hi).2.2.2 q x hq
    exact hs)
   have HI : Hid (IsS wr a c (flatS rs) ∧ From w.heap.size a) := ⟨hI, hF⟩
   clear hown hI hF hn ht
   rw [← HN.out]
   go_wp2
   go_ret
   exact ⟨a, c, rfl, HI.out.1, HI.out.2, hbel⟩
def RowsI (w : World) (H : Nat) (rs : List (Option Addr × Nat × List Int)) : Prop :=
 ∀ i r, rs[i]? = some r → w.cell? ⟨H, i, none⟩ = some (.slice r.1 r.2.2.length r.2.1) ∧ IsI w r.1 r.2.1 r.2.2
def flatI (rs : List (Option Addr × Nat × List Int)) : List Int := rs.flatMap fun r => r.2.2
theorem flatI_take {rs : List (Option Addr × Nat × List Int)} {i : Nat} {r : Option Addr × Nat × List Int} (h : rs[i]? = some r) : flatI (rs.take (i + 1)) = flatI (rs.take i) ++ r.2.2 := by
 unfold flatI
 rw [List.take_add_one, h, List.flatMap_append]
 simp
theorem flatI_le (rs : List (Option Addr × Nat × List Int)) (i : Nat) : (flatI (rs.take i)).length ≤ (flatI rs).length := by
 have e : flatI rs = flatI (rs.take i) ++ flatI (rs.drop i) := by
  unfold flatI
  rw [← List.flatMap_append, List.take_append_drop]
 rw [e, List.length_append]; omega
set_option maxRecDepth 20000 in
set_option maxHeartbeats 1000000 in
theorem joinedI_any (H k n : Nat) (rs : List (Option Addr × Nat × List Int)) (w : World) (hR : RowsI w H rs) (hk : k = rs.length) (hl : (flatI rs).length ≤ 4096) (hk9 : k ≤ 9) (hn : n = (flatI rs).length) :
  Calls Tryz.prog 130 #[.slice (some ⟨H, 0, none⟩) k k] w fun e w' => ∃ a c, e = .returned (.slice a n c) ∧ IsI w' a c (flatI rs) ∧ From w.heap.size a ∧ Below w.heap.size w w' := by
 have HR : Hid (RowsI w H rs) := hR
 have HK : Hid (k = rs.length) := hk
 have HL : Hid ((flatI rs).length ≤ 4096) := hl
 have HN : Hid (n = (flatI rs).length) := hn
 clear hR hk hl hn
 go_enter Tryz.func130, Tryz.ntmps130
 go_wp2
 go_loopw [3, 8] (fun v i wr => ∃ j : Nat, j ≤ k ∧ i = .int .i64 j ∧ wr.ownsRow w.heap.size 3 1 v (flatI (rs.take j)).length ((flatI (rs.take j)).map (Value.int .i64)) ∧ Below w.heap.size w wr) (fun _ i _ => k - (intOf i).toNat)
 case atStart => exact ⟨0, by omega, rfl, World.ownsRow_nil _ _ _ _, Below.refl _ _⟩
 case round =>
  obtain ⟨j, hj, rfl, hown, hbel⟩ := hrel
  by_cases hlt : j < k
  ·
   have hlt' : (j : Int) < k := by omega
   obtain ⟨r, hr⟩ : ∃ r, rs[j]? = some r := ⟨_, List.getElem?_eq_getElem (by rw [← HK.out]; exact hlt)⟩
   obtain ⟨hc0, hI⟩ := HR.out j r hr
   have hc := cell_below hbel hc0
   obtain ⟨a, c, ys⟩ := r
   have hf := flatI_take hr
   have hle := flatI_le rs (j + 1)
   simp only at hc hI hf
   have hle2 := HL.out
   obtain ⟨v', w', hrun, hown', hgr, _⟩ := append_I wr w.heap.size _ _ _ hown hbel.size a c ys.length ys rfl (hI.below hbel) (by rw [hf, List.length_append] at hle; omega)
   have HO : Hid (w'.ownsRow w.heap.size 3 1 v' (flatI (rs.take (j + 1))).length ((flatI (rs.take (j + 1))).map (Value.int .i64))) := by
    show World.ownsRow _ _ _ _ _ _ _
    rw [hf, List.length_append]; exact hown'
   have HB : Hid (Below w.heap.size w w') := hbel.grown hgr hbel.size fun g hg => (hown.lt g hg).1
   clear hown hown' hgr hr hc0 hI hf hle hle2 hbel
   go_wp2_with (at_builtin; refine Lib.wpList_append_run _ rfl _ _ _ _ rfl _ _ rfl rfl _ _ hrun ?_)
   go_roundw
   case rel => exact ⟨j + 1, by omega, by go_num, HO.out, HB.out⟩
   case measure => simp [intOf]; omega
  ·
   obtain rfl : j = k := by omega
   have ht : rs.take j = rs := List.take_of_length_le (by rw [← HK.out]; exact Nat.le_refl _)
   rw [ht] at hown
   obtain ⟨a, c, rfl, hn, hI, hF⟩ := owns_I hown 
   have HI : Hid (IsI wr a c (flatI rs) ∧ From w.heap.size a) := ⟨hI, hF⟩
   clear hown hI hF hn ht
   rw [← HN.out]
   go_wp2
   go_ret
   exact ⟨a, c, rfl, HI.out.1, HI.out.2, hbel⟩
theorem joined1S (W : World) (a : Option Addr) (c n : Nat) (xs : List ByteArray) (hn : n = xs.length) (h : IsS W a c xs) (h9 : n ≤ 30) :
  Calls Tryz.prog 129 #[.slice (some ⟨W.heap.size, 0, none⟩) 1 1] (W.alloc (.cells #[.slice a n c] 25)) fun e w' => ∃ b d, e = .returned (.slice b n d) ∧ IsS w' b d xs ∧ From W.heap.size b ∧ Below W.heap.size W w' := by
 have hA := (Below.refl W.heap.size W).alloc (Nat.le_refl _) (.cells #[.slice a n c] 25)
 have hf : flatS [(a, c, xs)] = xs := by simp [flatS]
 have := joinedS_any W.heap.size 1 n [(a, c, xs)] (W.alloc (.cells #[.slice a n c] 25)) (by
  intro i r hr
  match i, hr with
  | 0, hr => cases hr; exact ⟨by rw [hn]; exact World.cell?_alloc_at _ _ _ _ rfl, h.below hA⟩) rfl (by rw [hf]; omega) (by omega) (by rw [hf]; exact hn)
 rw [hf] at this
 exact this.mono fun e w' ⟨b, d, he, hi, hfr, hb⟩ => ⟨b, d, he, hi, hfr.mono (by simp), hA.trans (hb.mono (by simp))⟩
theorem joined1I (W : World) (a : Option Addr) (c n : Nat) (xs : List Int) (hn : n = xs.length) (h : IsI W a c xs) (h9 : n ≤ 30) :
  Calls Tryz.prog 130 #[.slice (some ⟨W.heap.size, 0, none⟩) 1 1] (W.alloc (.cells #[.slice a n c] 38)) fun e w' => ∃ b d, e = .returned (.slice b n d) ∧ IsI w' b d xs ∧ From W.heap.size b ∧ Below W.heap.size W w' := by
 have hA := (Below.refl W.heap.size W).alloc (Nat.le_refl _) (.cells #[.slice a n c] 38)
 have hf : flatI [(a, c, xs)] = xs := by simp [flatI]
 have := joinedI_any W.heap.size 1 n [(a, c, xs)] (W.alloc (.cells #[.slice a n c] 38)) (by
  intro i r hr
  match i, hr with
  | 0, hr => cases hr; exact ⟨by rw [hn]; exact World.cell?_alloc_at _ _ _ _ rfl, h.below hA⟩) rfl (by rw [hf]; omega) (by omega) (by rw [hf]; exact hn)
 rw [hf] at this
 exact this.mono fun e w' ⟨b, d, he, hi, hfr, hb⟩ => ⟨b, d, he, hi, hfr.mono (by simp), hA.trans (hb.mono (by simp))⟩
theorem isS_one (W : World) (x : ByteArray) (hx : x.size ≤ maxLen) : IsS (W.alloc (.cells #[.string x] 9)) (some ⟨W.heap.size, 0, none⟩) 1 [x] := by
 refine ⟨Nat.le_refl _, by unfold maxLen; omega, fun j d hd => ?_⟩
 match j, hd with
 | 0, hd =>
  simp at hd
  subst hd
  exact ⟨W.heap.size, 0, rfl, by simp, World.cell?_alloc_at _ _ _ _ rfl, hx⟩
set_option maxRecDepth 20000 in
set_option maxHeartbeats 1000000 in
theorem leafPart_any (a a' : Option Addr) (c c' n n' : Nat) (xs ys : List ByteArray) (w : World) (hn : n = xs.length) (hn' : n' = ys.length) (h : IsS w a c xs) (h' : IsS w a' c' ys) (h9 : n ≤ 30) (h9' : n' ≤ 30) :
  Calls Tryz.prog 105 #[.slice a n c, .slice a' n' c'] w fun e w' => ∃ b d b' d', e = .returned (.agg #[.bool true, .slice b n d, .slice b' n' d', .slice none 0 0]) ∧ IsS w' b d xs ∧ IsS w' b' d' ys ∧ From w.heap.size b ∧ From w.heap.size b' ∧ Below w.heap.size w w' := by
 obtain ⟨W0, hW0⟩ : ∃ W0, W0 = w.alloc (.cells #[.bool false, .slice none 0 0, .slice none 0 0, .slice none 0 0] 76) := ⟨_, rfl⟩
 have b00 : Box4 W0 w.heap.size (.bool false) (.slice none 0 0) (.slice none 0 0) (.slice none 0 0) := by rw [hW0]; exact box4_new _ _ _ _ _ _ rfl
 have HB : Below w.heap.size w W0 := by rw [hW0]; exact (Below.refl _ _).alloc (Nat.le_refl _) _
 have hz0 : W0.heap.size = w.heap.size + 1 := by rw [hW0]; simp
 have c1 : Calls Tryz.prog 129 #[.slice (some ⟨w.heap.size + 1, 0, none⟩) 1 1] (W0.alloc (.cells #[.slice a n c] 25)) fun e w' => ∃ b d, e = .returned (.slice b n d) ∧ IsS w' b d xs ∧ From W0.heap.size b ∧ Below W0.heap.size W0 w' := by rw [← hz0]; exact joined1S W0 a c n xs hn (h.below HB) h9
 have c2 : ∀ V, Below w.heap.size w V → Calls Tryz.prog 129 #[.slice (some ⟨V.heap.size, 0, none⟩) 1 1] (V.alloc (.cells #[.slice a' n' c'] 25)) fun e w' => ∃ b d, e = .returned (.slice b n' d) ∧ IsS w' b d ys ∧ From V.heap.size b ∧ Below V.heap.size V w' := fun V hV => joined1S V a' c' n' ys hn' (h'.below hV) h9'
 have hsz : w.heap.size < W0.heap.size := by omega
 have tok1 : True := trivial
 clear hn hn' h h' h9 h9' hz0
 go_enter Tryz.func105, Tryz.ntmps105
 go_wp2_with (first
  | (go_at_call 129; have _t := tok1; rw [← hW0]; refine c1.mono ?_; rintro y w1 ⟨b, d, rfl, i1, j1, hb⟩; replace b00 := b00.below hb; replace HB := Below.tr HB hb; have I1 : Hid (IsS w1 b d xs) := i1; have J1 : Hid (From W0.heap.size b) := j1; have hs1 : W0.heap.size ≤ w1.heap.size := hb.size; clear i1 j1 hb tok1 _t c1)
  | (go_at_call 129; refine (c2 _ HB).mono ?_; rintro y w2 ⟨b', d', rfl, i2, j2, hb⟩; replace b00 := b00.below hb; replace HB := Below.tr HB hb; replace I1 : Hid (IsS w2 b d xs) := I1.out.below hb; have I2 : Hid (IsS w2 b' d' ys) := i2; have J2 : Hid (From w1.heap.size b') := j2; obtain ⟨⟨r0, r1, r2, r3⟩, g0, g1, g2, g3⟩ := id b00; clear i2 j2 hb))
 have T4 := turns_put4 w2 w.heap.size (.bool true) (.slice b n d) (.slice b' n' d') (.slice none 0 0)
 refine bodyPost_ret (v := .agg #[.bool true, .slice b n d, .slice b' n' d', .slice none 0 0]) (by simp [results, Tryz.results105, go_sem, r0, r1, r2, r3]) rfl ⟨b, d, b', d', rfl, I1.out.turns T4 (fun x hx e => by have := J1.out x hx; omega), I2.out.turns T4 (fun x hx e => by have := J2.out x hx; omega), J1.out.mono (by omega), J2.out.mono (by omega), Below.turns HB T4 (fun k hk => by omega)⟩
set_option maxRecDepth 20000 in
set_option maxHeartbeats 1000000 in
theorem innerPart_any (a a' : Option Addr) (c c' n n' : Nat) (xs : List ByteArray) (ys : List Int) (w : World) (hn : n = xs.length) (hn' : n' = ys.length) (h : IsS w a c xs) (h' : IsI w a' c' ys) (h9 : n ≤ 30) (h9' : n' ≤ 30) :
  Calls Tryz.prog 106 #[.slice a n c, .slice a' n' c'] w fun e w' => ∃ b d b' d', e = .returned (.agg #[.bool false, .slice b n d, .slice none 0 0, .slice b' n' d']) ∧ IsS w' b d xs ∧ IsI w' b' d' ys ∧ From w.heap.size b ∧ From w.heap.size b' ∧ Below w.heap.size w w' := by
 obtain ⟨W0, hW0⟩ : ∃ W0, W0 = w.alloc (.cells #[.bool false, .slice none 0 0, .slice none 0 0, .slice none 0 0] 76) := ⟨_, rfl⟩
 have b00 : Box4 W0 w.heap.size (.bool false) (.slice none 0 0) (.slice none 0 0) (.slice none 0 0) := by rw [hW0]; exact box4_new _ _ _ _ _ _ rfl
 have HB : Below w.heap.size w W0 := by rw [hW0]; exact (Below.refl _ _).alloc (Nat.le_refl _) _
 have hz0 : W0.heap.size = w.heap.size + 1 := by rw [hW0]; simp
 have c1 : Calls Tryz.prog 129 #[.slice (some ⟨w.heap.size + 1, 0, none⟩) 1 1] (W0.alloc (.cells #[.slice a n c] 25)) fun e w' => ∃ b d, e = .returned (.slice b n d) ∧ IsS w' b d xs ∧ From W0.heap.size b ∧ Below W0.heap.size W0 w' := by rw [← hz0]; exact joined1S W0 a c n xs hn (h.below HB) h9
 have c2 : ∀ V, Below w.heap.size w V → Calls Tryz.prog 130 #[.slice (some ⟨V.heap.size, 0, none⟩) 1 1] (V.alloc (.cells #[.slice a' n' c'] 38)) fun e w' => ∃ b d, e = .returned (.slice b n' d) ∧ IsI w' b d ys ∧ From V.heap.size b ∧ Below V.heap.size V w' := fun V hV => joined1I V a' c' n' ys hn' (h'.below hV) h9'
 have hsz : w.heap.size < W0.heap.size := by omega
 have tok1 : True := trivial
 clear hn hn' h h' h9 h9' hz0
 go_enter Tryz.func106, Tryz.ntmps106
 go_wp2_with (first
  | (go_at_call 129; have _t := tok1; rw [← hW0]; refine c1.mono ?_; rintro y w1 ⟨b, d, rfl, i1, j1, hb⟩; replace b00 := b00.below hb; replace HB := Below.tr HB hb; have I1 : Hid (IsS w1 b d xs) := i1; have J1 : Hid (From W0.heap.size b) := j1; have hs1 : W0.heap.size ≤ w1.heap.size := hb.size; clear i1 j1 hb tok1 _t c1)
  | (go_at_call 130; refine (c2 _ HB).mono ?_; rintro y w2 ⟨b', d', rfl, i2, j2, hb⟩; replace b00 := b00.below hb; replace HB := Below.tr HB hb; replace I1 : Hid (IsS w2 b d xs) := I1.out.below hb; have I2 : Hid (IsI w2 b' d' ys) := i2; have J2 : Hid (From w1.heap.size b') := j2; obtain ⟨⟨r0, r1, r2, r3⟩, g0, g1, g2, g3⟩ := id b00; clear i2 j2 hb))
 have T4 := turns_put4 w2 w.heap.size (.bool false) (.slice b n d) (.slice none 0 0) (.slice b' n' d')
 refine bodyPost_ret (v := .agg #[.bool false, .slice b n d, .slice none 0 0, .slice b' n' d']) (by simp [results, Tryz.results106, go_sem, r0, r1, r2, r3]) rfl ⟨b, d, b', d', rfl, I1.out.turns T4 (fun x hx e => by have := J1.out x hx; omega), I2.out.turns T4 (fun x hx e => by have := J2.out x hx; omega), J1.out.mono (by omega), J2.out.mono (by omega), Below.turns HB T4 (fun k hk => by omega)⟩
end Go.Proofs.YtaecfbfcjaailaaGreat
namespace Go.Proofs.YtaecfbfcjaailaaGreat
open Go.RowKit Plain Anylast
set_option linter.unusedVariables false
theorem isS_drop {w : World} {b o c : Nat} {xs : List ByteArray} (h : IsS w (some ⟨b, o, none⟩) c xs) (k : Nat) (hk : k ≤ xs.length) : IsS w (some ⟨b, o + k, none⟩) (c - k) (xs.drop k) := by
 refine ⟨by rw [List.length_drop]; have := h.1; omega, by have := h.2.1; omega, fun j x hx => ?_⟩
 rw [List.getElem?_drop] at hx
 obtain ⟨b2, o2, ha, hl, hc, hs⟩ := h.2.2 (k + j) x hx
 cases ha
 exact ⟨b, o + k, rfl, hl, by rw [Nat.add_assoc]; exact hc, hs⟩
theorem isI_drop {w : World} {b o c : Nat} {xs : List Int} (h : IsI w (some ⟨b, o, none⟩) c xs) (k : Nat) (hk : k ≤ xs.length) : IsI w (some ⟨b, o + k, none⟩) (c - k) (xs.drop k) := by
 refine ⟨by rw [List.length_drop]; have := h.1; omega, by have := h.2.1; omega, fun j x hx => ?_⟩
 rw [List.getElem?_drop] at hx
 obtain ⟨b2, o2, ha, hl, hc⟩ := h.2.2 (k + j) x hx
 cases ha
 exact ⟨b, o + k, rfl, hl, by rw [Nat.add_assoc]; exact hc⟩
def LaidS (V0 V : World) (g : Nat) (p : Option Addr) (q : Nat) (p' : Option Addr) (q' n : Nat) (xs ys : List ByteArray) : Prop :=
 Box4 V g (.bool true) (.slice p n q) (.slice p' n q') (.slice none 0 0) ∧ V0.heap.size ≤ g ∧ Below V0.heap.size V0 V ∧ IsS V p q xs ∧ IsS V p' q' ys ∧ From V0.heap.size p ∧ From V0.heap.size p'
def cutV (va vk vb : Value) (h1 b o : Nat) (mid : ByteArray) : Nat → Value
 | 0 => va
 | 1 => .pointer (some ⟨h1, 1, none⟩)
 | 2 => vk
 | 3 => .pointer (some ⟨b, o + 4, none⟩)
 | 4 => .string mid
 | 5 => vb
 | 7 => .string mid
 | 9 => .int .i64 0
 | _ => undef
set_option maxRecDepth 20000 in
set_option maxHeartbeats 1000000 in
theorem cutLeaf_any (b o c b' o' c' : Nat) (a'' : Option Addr) (c'' n'' : Nat) (ks vs : List ByteArray) (w : World)
  (hn : 9 = ks.length) (hn' : 9 = vs.length) (hn'' : n'' = ([] : List Int).length) (hK : IsS w (some ⟨b, o, none⟩) c ks) (hV : IsS w (some ⟨b', o', none⟩) c' vs) (hC : IsI w a'' c'' []) (hs : standsN true ks vs [] = true) {mid : ByteArray} (hmid : ks[4]? = some mid) :
  Calls Tryz.prog 87 #[.agg #[.bool true, .slice (some ⟨b, o, none⟩) 9 c, .slice (some ⟨b', o', none⟩) 9 c', .slice a'' n'' c'']] w fun x w' => ∃ p q p' q' r s r' s', x = .returned (.tuple #[.agg #[.bool true, .slice p 4 q, .slice p' 4 q', .slice none 0 0], .string mid, .agg #[.bool true, .slice r 5 s, .slice r' 5 s', .slice none 0 0], .int .i64 0]) ∧
   IsS w' p q (ks.take 4) ∧ IsS w' p' q' (vs.take 4) ∧ IsS w' r s (ks.drop 4) ∧ IsS w' r' s' (vs.drop 4) ∧ (From w.heap.size p ∧ From w.heap.size p' ∧ From w.heap.size r ∧ From w.heap.size r') ∧ Below w.heap.size w w' := by
 obtain ⟨W, hW⟩ : ∃ W, W = ((w.alloc (.cells #[.bool true, .slice (some ⟨b, o, none⟩) 9 c, .slice (some ⟨b', o', none⟩) 9 c', .slice a'' n'' c''] 76)).alloc (.cells #[.bool false, .slice none 0 0, .slice none 0 0, .slice none 0 0] 76)).alloc (.cells #[.bool false, .slice none 0 0, .slice none 0 0, .slice none 0 0] 76) := ⟨_, rfl⟩
 have A1 : Box4 W w.heap.size (.bool true) (.slice (some ⟨b, o, none⟩) 9 c) (.slice (some ⟨b', o', none⟩) 9 c') (.slice a'' n'' c'') := by rw [hW]; exact ((box4_new _ _ _ _ _ _ rfl).alloc _).alloc _
 have A2 : Box4 W (w.heap.size + 1) (.bool false) (.slice none 0 0) (.slice none 0 0) (.slice none 0 0) := by rw [hW]; exact (box4_new _ _ _ _ _ _ (by simp)).alloc _
 have A4 : Box4 W (w.heap.size + 2) (.bool false) (.slice none 0 0) (.slice none 0 0) (.slice none 0 0) := by rw [hW]; exact box4_new _ _ _ _ _ _ (by simp)
 have HB : Below w.heap.size w W := by rw [hW]; exact (((Below.refl _ _).alloc (Nat.le_refl _) _).alloc (by simp) _).alloc (by simp; omega) _
 have c1 : ∀ V, Below w.heap.size w V → Calls Tryz.prog 81 #[.agg #[.bool true, .slice (some ⟨b, o, none⟩) 9 c, .slice (some ⟨b', o', none⟩) 9 c', .slice a'' n'' c'']] V fun e w' => e = .returned (.bool true) ∧ Below V.heap.size V w' := fun V h => by have := mayStand_any true (some ⟨b, o, none⟩) (some ⟨b', o', none⟩) a'' c c' c'' 9 9 n'' ks vs [] V hn hn' hn'' (hK.below h) (hV.below h) (hC.below h); rw [hs] at this; exact this
 have cP : ∀ V, Below w.heap.size w V → Calls Tryz.prog 105 #[.slice (some ⟨b, o, none⟩) 4 c, .slice (some ⟨b', o', none⟩) 4 c'] V fun e w' => ∃ p q p' q', e = .returned (.agg #[.bool true, .slice p 4 q, .slice p' 4 q', .slice none 0 0]) ∧ IsS w' p q (ks.take 4) ∧ IsS w' p' q' (vs.take 4) ∧ From V.heap.size p ∧ From V.heap.size p' ∧ Below V.heap.size V w' := fun V h => leafPart_any _ _ c c' 4 4 (ks.take 4) (vs.take 4) V (by rw [List.length_take]; omega) (by rw [List.length_take]; omega) ((hK.take 4).below h) ((hV.take 4).below h) (by omega) (by omega)
 have cQ : ∀ V, Below w.heap.size w V → Calls Tryz.prog 105 #[.slice (some ⟨b, o + 4, none⟩) 5 (c - 4), .slice (some ⟨b', o' + 4, none⟩) 5 (c' - 4)] V fun e w' => ∃ p q p' q', e = .returned (.agg #[.bool true, .slice p 5 q, .slice p' 5 q', .slice none 0 0]) ∧ IsS w' p q (ks.drop 4) ∧ IsS w' p' q' (vs.drop 4) ∧ From V.heap.size p ∧ From V.heap.size p' ∧ Below V.heap.size V w' := fun V h => leafPart_any _ _ _ _ 5 5 (ks.drop 4) (vs.drop 4) V (by rw [List.length_drop]; omega) (by rw [List.length_drop]; omega) ((isS_drop hK 4 (by omega)).below h) ((isS_drop hV 4 (by omega)).below h) (by omega) (by omega)
 obtain ⟨_, _, hbo, hbl, hcm, hms⟩ := hK.2.2 4 mid hmid
 cases hbo
 have hc9 : 9 ≤ c := by rw [hn]; exact hK.1
 have hc9' : 9 ≤ c' := by rw [hn']; exact hV.1
 have hcM : c ≤ 9223372036854775807 := hK.2.1
 have hcM' : c' ≤ 9223372036854775807 := hV.2.1
 generalize ks.take 4 = K1 at *
 generalize ks.drop 4 = K2 at *
 generalize vs.take 4 = X1 at *
 generalize vs.drop 4 = X2 at *
 have hcm0 := cell_below HB hcm
 clear hn hn' hn'' hK hV hC hs hmid hcm
 obtain ⟨⟨q0, q1, q2, q3⟩, -⟩ := id A1
 have i1 : (4 : Int) ≤ c := by omega
 have i2 : (4 : Int) ≤ c' := by omega
 have i3 : 4 < c := by omega
 have i4 : 4 < c' := by omega
 have i5 : ¬ c = 4 := by omega
 have i6 : ¬ c' = 4 := by omega
 go_enter Tryz.func87, Tryz.ntmps87
 go_wp2_with (go_at_call 81; rw [← hW]; refine (c1 _ HB).mono ?_; rintro y w1 ⟨rfl, hb⟩; replace HB := Below.tr HB hb; replace A1 := A1.below hb; replace A2 := A2.below hb; replace A4 := A4.below hb; replace hcm0 := cell_below hb hcm0; clear q0 q1 q2 q3; obtain ⟨⟨q0, q1, q2, q3⟩, -⟩ := id A1; clear hb)
 obtain ⟨V0, hV0⟩ : ∃ X, X = w1.drew := ⟨_, rfl⟩
 replace HB : Below w.heap.size w V0 := by rw [hV0]; exact HB.drew
 replace A1 : Box4 V0 w.heap.size (.bool true) (.slice (some ⟨b, o, none⟩) 9 c) (.slice (some ⟨b', o', none⟩) 9 c') (.slice a'' n'' c'') := by rw [hV0]; exact A1.drew
 replace A2 : Box4 V0 (w.heap.size + 1) (.bool false) (.slice none 0 0) (.slice none 0 0) (.slice none 0 0) := by rw [hV0]; exact A2.drew
 replace A4 : Box4 V0 (w.heap.size + 2) (.bool false) (.slice none 0 0) (.slice none 0 0) (.slice none 0 0) := by rw [hV0]; exact A4.drew
 clear q0 q1 q2 q3
 obtain ⟨⟨q0, q1, q2, q3⟩, -⟩ := id A1
 have HV0 : Hid (V0 = w1.drew) := hV0
 clear hV0
 refine (fun (key : Hid (∀ V g p q p' q', LaidS V0 V g p q p' q' 4 K1 X1 → (?propV0 : World → Nat → Option Addr → Nat → Option Addr → Nat → Prop) V g p q p' q')) => ?regV0) ?kontV0
 case regV0 =>
  refine wp_region_noPanic ?_
  refine wp_region_held_drew (S := fun V => V.cell? ⟨w.heap.size, 1, none⟩ = some (.slice (some ⟨b, o, none⟩) 9 c) ∧ V.cell? ⟨w.heap.size, 2, none⟩ = some (.slice (some ⟨b', o', none⟩) 9 c')) (by kernel_rfl) (by rw [← HV0.out]; exact ⟨q1, q2⟩) (fun hHeld => ?_)
  rw [← HV0.out] at hHeld ⊢
  refine take_at (i := 0) (v := ?_) rfl (by kernel_rfl) (by kernel_rfl) (by kernel_rfl) (fun _ _ _ h => h) (Or.inl ⟨by rfl, ?_⟩) (by assumption) ?_
  rotate_left 1
  ·
   (intro w hSw; (try dsimp only at hSw); go_simp; (try with_reducible rfl))
  try go_frame
  refine take_at (i := 1) (v := ?_) rfl (by kernel_rfl) (by kernel_rfl) (by kernel_rfl) (fun _ _ _ h => h) (Or.inl ⟨by rfl, ?_⟩) (by assumption) ?_
  rotate_left 1
  ·
   (intro w hSw; (try dsimp only at hSw); go_simp; (try with_reducible rfl))
  try go_frame
  refine take_at (i := 2) (v := ?_) rfl (by kernel_rfl) (by kernel_rfl) (by kernel_rfl) (fun _ _ _ h => h) (Or.inl ⟨by rfl, ?_⟩) (by assumption) ?_
  rotate_left 1
  ·
   (intro w hSw; (try dsimp only at hSw); go_simp; (try with_reducible rfl))
  try go_frame
  refine take_at (i := 3) (v := ?_) rfl (by kernel_rfl) (by kernel_rfl) (by kernel_rfl) (fun _ _ _ h => h) (Or.inl ⟨by rfl, ?_⟩) (by assumption) ?_
  rotate_left 1
  ·
   (intro w hSw; (try dsimp only at hSw); go_simp; (try with_reducible rfl))
  try go_frame
  refine take_at (i := 4) (v := ?_) rfl (by kernel_rfl) (by kernel_rfl) (by kernel_rfl) (fun _ _ _ h => h) (Or.inl ⟨by rfl, ?_⟩) (by assumption) ?_
  rotate_left 1
  ·
   (intro w hSw; (try dsimp only at hSw); go_simp; (try with_reducible rfl))
  try go_frame
  refine take_at (i := 5) (v := ?_) rfl (by kernel_rfl) (by kernel_rfl) (by kernel_rfl) (fun _ _ _ h => h) (Or.inl ⟨by rfl, ?_⟩) (by assumption) ?_
  rotate_left 1
  ·
   (intro w hSw; (try dsimp only at hSw); go_simp; (try with_reducible rfl))
  try go_frame
  refine wpAnyH_ready (rs := [6, 7]) (by kernel_rfl) (by simp) ?_
  refine cons_at (i := 6) rfl (fun K hK => ?callFirstV0) (cons_at (i := 7) rfl (fun K hK => ?allocFirstV0) AllReadyH.nil)
  case callFirstV0 =>
   go_simp
   go_at_call 105
   refine (cP _ HB).mono ?_
   rintro y u ⟨p, q, p', q', rfl, k1, k2, j1, j2, hb⟩
   have s1 := cell_below hb q1
   have s2 := cell_below hb q2
   refine hK.out _ _ ?_ (fun hHeld2 => ?_)
   ·
    exact ⟨s1, s2⟩
   clear hK K
   try go_frame
   refine wpAnyH_ready (rs := [7]) (by kernel_rfl) (by simp) ?_
   refine cons_at (i := 7) rfl (fun K hK => ?_) AllReadyH.nil
   go_simp
   refine hK.out _ _ ?_ (fun hHeld3 => ?_)
   ·
    exact ⟨cell_alloc s1 _, cell_alloc s2 _⟩
   clear hK K
   try go_frame
   refine wpAnyH_ready (rs := [8]) (by kernel_rfl) (by simp) ?_
   refine cons_at (i := 8) rfl (fun K hK => ?_) AllReadyH.nil
   go_simp
   have hA := (Below.refl u.heap.size u).alloc (Nat.le_refl _) (.cells #[.bool true, .slice p 4 q, .slice p' 4 q', .slice none 0 0] 76)
   have F : LaidS V0 (u.alloc (.cells #[.bool true, .slice p 4 q, .slice p' 4 q', .slice none 0 0] 76)) u.heap.size p q p' q' 4 K1 X1 := ⟨box4_new _ _ _ _ _ _ rfl, hb.size, hb.alloc hb.size _, k1.below hA, k2.below hA, j1, j2⟩
   refine hK.out _ _ ?_ (fun hHeld4 => ?_)
   ·
    exact ⟨cell_alloc s1 _, cell_alloc s2 _⟩
   clear hK K
   try go_frame
   refine wpAnyH_done (by kernel_rfl) ?_ _
   refine NoPanic.normal ?_
   clear hHeld hHeld2 hHeld3 hHeld4 hA
   generalize u.alloc (.cells #[.bool true, .slice p 4 q, .slice p' 4 q', .slice none 0 0] 76) = V at F ⊢
   generalize u.heap.size = g at F ⊢
   exact key.out V g p q p' q' F
  case allocFirstV0 =>
   go_simp
   refine hK.out _ _ ?_ (fun hHeld2 => ?_)
   ·
    exact ⟨cell_alloc q1 _, cell_alloc q2 _⟩
   clear hK K
   try go_frame
   refine wpAnyH_ready (rs := [6]) (by kernel_rfl) (by simp) ?_
   refine cons_at (i := 6) rfl (fun K hK => ?_) AllReadyH.nil
   go_simp
   go_at_call 105
   have hA := (Below.refl V0.heap.size V0).alloc (Nat.le_refl _) (.cells #[.bool false, .slice none 0 0, .slice none 0 0, .slice none 0 0] 76)
   have bZ := box4_new V0 (.bool false) (.slice none 0 0) (.slice none 0 0) (.slice none 0 0) 76 rfl
   refine (cP _ (Below.tr HB hA)).mono ?_
   rintro y u ⟨p, q, p', q', rfl, k1, k2, j1, j2, hb⟩
   have s1 := cell_below hb (cell_alloc q1 _)
   have s2 := cell_below hb (cell_alloc q2 _)
   replace bZ := bZ.below hb
   obtain ⟨⟨z0, z1, z2, z3⟩, y0, y1, y2, y3⟩ := id bZ
   refine hK.out _ _ ?_ (fun hHeld3 => ?_)
   ·
    exact ⟨s1, s2⟩
   clear hK K
   try go_frame
   refine wpAnyH_ready (rs := [8]) (by kernel_rfl) (by simp) ?_
   refine cons_at (i := 8) rfl (fun K hK => ?_) AllReadyH.nil
   go_simp
   have T4 := turns_put4 u V0.heap.size (.bool true) (.slice p 4 q) (.slice p' 4 q') (.slice none 0 0)
   have hlt : w.heap.size < V0.heap.size := A1.lt
   have F : LaidS V0 ((((u.setCell ⟨V0.heap.size, 0, none⟩ (.bool true)).setCell ⟨V0.heap.size, 1, none⟩ (.slice p 4 q)).setCell ⟨V0.heap.size, 2, none⟩ (.slice p' 4 q')).setCell ⟨V0.heap.size, 3, none⟩ (.slice none 0 0)) V0.heap.size p q p' q' 4 K1 X1 :=
    ⟨bZ.put _ _ _ _, Nat.le_refl _, Below.turns (hA.trans (hb.mono (by simp))) T4 (fun k hk => by omega), k1.turns T4 (fun x hx e => by have := j1 x hx; simp at this; omega), k2.turns T4 (fun x hx e => by have := j2 x hx; simp at this; omega), j1.mono (by simp), j2.mono (by simp)⟩
   refine hK.out _ _ ?_ (fun hHeld4 => ?_)
   ·
    exact ⟨T4.cell (p := ⟨w.heap.size, 1, none⟩) (by show ¬ w.heap.size = _; omega) s1, T4.cell (p := ⟨w.heap.size, 2, none⟩) (by show ¬ w.heap.size = _; omega) s2⟩
   clear hK K
   try go_frame
   refine wpAnyH_done (by kernel_rfl) ?_ _
   refine NoPanic.normal ?_
   exact key.out _ _ p q p' q' F
 case kontV0 =>
  intro V g0 p0 n0 p0' n0' hF
  obtain ⟨D6, hg, hb, k1, k2, j1, j2⟩ := hF
  have hlt1 : w.heap.size + 2 < V0.heap.size := A4.lt
  have hVs : V0.heap.size ≤ V.heap.size := hb.size
  replace A1 := A1.below hb
  replace A2 := A2.below hb
  replace A4 := A4.below hb
  replace HB := Below.tr HB hb
  replace hcm0 : V0.cell? ⟨b, o + 4, none⟩ = some (.string mid) := by rw [HV0.out]; exact hcm0
  replace hcm0 := cell_below hb hcm0
  have KK1 : Hid (IsS V p0 n0 K1) := k1
  have KK2 : Hid (IsS V p0' n0' X1) := k2
  have JJ1 : Hid (From V0.heap.size p0) := j1
  have JJ2 : Hid (From V0.heap.size p0') := j2
  clear q0 q1 q2 q3 k1 k2 j1 j2 hb HV0
  obtain ⟨⟨q0, q1, q2, q3⟩, -⟩ := id A1
  go_wp2
  obtain ⟨V5, hV5⟩ : ∃ X, X = V.drew := ⟨_, rfl⟩
  replace HB : Below w.heap.size w V5 := by rw [hV5]; exact HB.drew
  replace A1 : Box4 V5 w.heap.size (.bool true) (.slice (some ⟨b, o, none⟩) 9 c) (.slice (some ⟨b', o', none⟩) 9 c') (.slice a'' n'' c'') := by rw [hV5]; exact A1.drew
  replace A2 : Box4 V5 (w.heap.size + 1) (.bool false) (.slice none 0 0) (.slice none 0 0) (.slice none 0 0) := by rw [hV5]; exact A2.drew
  replace A4 : Box4 V5 (w.heap.size + 2) (.bool false) (.slice none 0 0) (.slice none 0 0) (.slice none 0 0) := by rw [hV5]; exact A4.drew
  clear q0 q1 q2 q3
  obtain ⟨⟨q0, q1, q2, q3⟩, -⟩ := id A1
  have HV5 : Hid (V5 = V.drew) := hV5
  clear hV5
  refine (fun (key : Hid (∀ V g p q p' q', LaidS V5 V g p q p' q' 5 K2 X2 → (?propV5 : World → Nat → Option Addr → Nat → Option Addr → Nat → Prop) V g p q p' q')) => ?regV5) ?kontV5
  case regV5 =>
   refine wp_region_noPanic ?_
   refine wp_region_held_drew (S := fun V => V.cell? ⟨w.heap.size, 1, none⟩ = some (.slice (some ⟨b, o, none⟩) 9 c) ∧ V.cell? ⟨w.heap.size, 2, none⟩ = some (.slice (some ⟨b', o', none⟩) 9 c')) (by kernel_rfl) (by rw [← HV5.out]; exact ⟨q1, q2⟩) (fun hHeld => ?_)
   rw [← HV5.out] at hHeld ⊢
   refine take_at (i := 0) (v := ?_) rfl (by kernel_rfl) (by kernel_rfl) (by kernel_rfl) (fun _ _ _ h => h) (Or.inl ⟨by rfl, ?_⟩) (by assumption) ?_
   rotate_left 1
   ·
    (intro w hSw; (try dsimp only at hSw); go_simp; (try with_reducible rfl))
   try go_frame
   refine take_at (i := 1) (v := ?_) rfl (by kernel_rfl) (by kernel_rfl) (by kernel_rfl) (fun _ _ _ h => h) (Or.inl ⟨by rfl, ?_⟩) (by assumption) ?_
   rotate_left 1
   ·
    (intro w hSw; (try dsimp only at hSw); go_simp; (try with_reducible rfl))
   try go_frame
   refine take_at (i := 2) (v := ?_) rfl (by kernel_rfl) (by kernel_rfl) (by kernel_rfl) (fun _ _ _ h => h) (Or.inl ⟨by rfl, ?_⟩) (by assumption) ?_
   rotate_left 1
   ·
    (intro w hSw; (try dsimp only at hSw); go_simp; (try with_reducible rfl))
   try go_frame
   refine take_at (i := 3) (v := ?_) rfl (by kernel_rfl) (by kernel_rfl) (by kernel_rfl) (fun _ _ _ h => h) (Or.inl ⟨by rfl, ?_⟩) (by assumption) ?_
   rotate_left 1
   ·
    (intro w hSw; (try dsimp only at hSw); go_simp; (try with_reducible rfl))
   try go_frame
   refine take_at (i := 4) (v := ?_) rfl (by kernel_rfl) (by kernel_rfl) (by kernel_rfl) (fun _ _ _ h => h) (Or.inl ⟨by rfl, ?_⟩) (by assumption) ?_
   rotate_left 1
   ·
    (intro w hSw; (try dsimp only at hSw); go_simp; (try with_reducible rfl))
   try go_frame
   refine take_at (i := 5) (v := ?_) rfl (by kernel_rfl) (by kernel_rfl) (by kernel_rfl) (fun _ _ _ h => h) (Or.inl ⟨by rfl, ?_⟩) (by assumption) ?_
   rotate_left 1
   ·
    (intro w hSw; (try dsimp only at hSw); go_simp; (try with_reducible rfl))
   try go_frame
   refine wpAnyH_ready (rs := [6, 7]) (by kernel_rfl) (by simp) ?_
   refine cons_at (i := 6) rfl (fun K hK => ?callFirstV5) (cons_at (i := 7) rfl (fun K hK => ?allocFirstV5) AllReadyH.nil)
   case callFirstV5 =>
    go_simp
    go_at_call 105
    refine (cQ _ HB).mono ?_
    rintro y u ⟨p, q, p', q', rfl, k1, k2, j1, j2, hb⟩
    have s1 := cell_below hb q1
    have s2 := cell_below hb q2
    refine hK.out _ _ ?_ (fun hHeld2 => ?_)
    ·
     exact ⟨s1, s2⟩
    clear hK K
    try go_frame
    refine wpAnyH_ready (rs := [7]) (by kernel_rfl) (by simp) ?_
    refine cons_at (i := 7) rfl (fun K hK => ?_) AllReadyH.nil
    go_simp
    refine hK.out _ _ ?_ (fun hHeld3 => ?_)
    ·
     exact ⟨cell_alloc s1 _, cell_alloc s2 _⟩
    clear hK K
    try go_frame
    refine wpAnyH_ready (rs := [8]) (by kernel_rfl) (by simp) ?_
    refine cons_at (i := 8) rfl (fun K hK => ?_) AllReadyH.nil
    go_simp
    have hA := (Below.refl u.heap.size u).alloc (Nat.le_refl _) (.cells #[.bool true, .slice p 5 q, .slice p' 5 q', .slice none 0 0] 76)
    have F : LaidS V5 (u.alloc (.cells #[.bool true, .slice p 5 q, .slice p' 5 q', .slice none 0 0] 76)) u.heap.size p q p' q' 5 K2 X2 := ⟨box4_new _ _ _ _ _ _ rfl, hb.size, hb.alloc hb.size _, k1.below hA, k2.below hA, j1, j2⟩
    refine hK.out _ _ ?_ (fun hHeld4 => ?_)
    ·
     exact ⟨cell_alloc s1 _, cell_alloc s2 _⟩
    clear hK K
    try go_frame
    refine wpAnyH_done (by kernel_rfl) ?_ _
    refine NoPanic.normal ?_
    clear hHeld hHeld2 hHeld3 hHeld4 hA
    generalize u.alloc (.cells #[.bool true, .slice p 5 q, .slice p' 5 q', .slice none 0 0] 76) = V at F ⊢
    generalize u.heap.size = g at F ⊢
    exact key.out V g p q p' q' F
   case allocFirstV5 =>
    go_simp
    refine hK.out _ _ ?_ (fun hHeld2 => ?_)
    ·
     exact ⟨cell_alloc q1 _, cell_alloc q2 _⟩
    clear hK K
    try go_frame
    refine wpAnyH_ready (rs := [6]) (by kernel_rfl) (by simp) ?_
    refine cons_at (i := 6) rfl (fun K hK => ?_) AllReadyH.nil
    go_simp
    go_at_call 105
    have hA := (Below.refl V5.heap.size V5).alloc (Nat.le_refl _) (.cells #[.bool false, .slice none 0 0, .slice none 0 0, .slice none 0 0] 76)
    have bZ := box4_new V5 (.bool false) (.slice none 0 0) (.slice none 0 0) (.slice none 0 0) 76 rfl
    refine (cQ _ (Below.tr HB hA)).mono ?_
    rintro y u ⟨p, q, p', q', rfl, k1, k2, j1, j2, hb⟩
    have s1 := cell_below hb (cell_alloc q1 _)
    have s2 := cell_below hb (cell_alloc q2 _)
    replace bZ := bZ.below hb
    obtain ⟨⟨z0, z1, z2, z3⟩, y0, y1, y2, y3⟩ := id bZ
    refine hK.out _ _ ?_ (fun hHeld3 => ?_)
    ·
     exact ⟨s1, s2⟩
    clear hK K
    try go_frame
    refine wpAnyH_ready (rs := [8]) (by kernel_rfl) (by simp) ?_
    refine cons_at (i := 8) rfl (fun K hK => ?_) AllReadyH.nil
    go_simp
    have T4 := turns_put4 u V5.heap.size (.bool true) (.slice p 5 q) (.slice p' 5 q') (.slice none 0 0)
    have hlt : w.heap.size < V5.heap.size := A1.lt
    have F : LaidS V5 ((((u.setCell ⟨V5.heap.size, 0, none⟩ (.bool true)).setCell ⟨V5.heap.size, 1, none⟩ (.slice p 5 q)).setCell ⟨V5.heap.size, 2, none⟩ (.slice p' 5 q')).setCell ⟨V5.heap.size, 3, none⟩ (.slice none 0 0)) V5.heap.size p q p' q' 5 K2 X2 :=
     ⟨bZ.put _ _ _ _, Nat.le_refl _, Below.turns (hA.trans (hb.mono (by simp))) T4 (fun k hk => by omega), k1.turns T4 (fun x hx e => by have := j1 x hx; simp at this; omega), k2.turns T4 (fun x hx e => by have := j2 x hx; simp at this; omega), j1.mono (by simp), j2.mono (by simp)⟩
    refine hK.out _ _ ?_ (fun hHeld4 => ?_)
    ·
     exact ⟨T4.cell (p := ⟨w.heap.size, 1, none⟩) (by show ¬ w.heap.size = _; omega) s1, T4.cell (p := ⟨w.heap.size, 2, none⟩) (by show ¬ w.heap.size = _; omega) s2⟩
    clear hK K
    try go_frame
    refine wpAnyH_done (by kernel_rfl) ?_ _
    refine NoPanic.normal ?_
    exact key.out _ _ p q p' q' F
  case kontV5 =>
   intro V6 g1 p1 n1 p1' n1' hF
   obtain ⟨D7, hg1, hb, k1, k2, j1, j2⟩ := hF
   replace A1 := A1.below hb
   replace A2 := A2.below hb
   replace A4 := A4.below hb
   replace D6 : Box4 V5 g0 (.bool true) (.slice p0 4 n0) (.slice p0' 4 n0') (.slice none 0 0) := by rw [HV5.out]; exact D6.drew
   replace D6 := D6.below hb
   replace HB := Below.tr HB hb
   replace hcm0 : V5.cell? ⟨b, o + 4, none⟩ = some (.string mid) := by rw [HV5.out]; exact hcm0
   replace hcm0 := cell_below hb hcm0
   have hV5s : V.heap.size ≤ V5.heap.size := by rw [HV5.out]; exact Nat.le_refl _
   replace KK1 : Hid (IsS V6 p0 n0 K1) := IsS.below (w := V5) (by rw [HV5.out]; exact KK1.out) hb
   replace KK2 : Hid (IsS V6 p0' n0' X1) := IsS.below (w := V5) (by rw [HV5.out]; exact KK2.out) hb
   have KK3 : Hid (IsS V6 p1 n1 K2) := k1
   have KK4 : Hid (IsS V6 p1' n1' X2) := k2
   have JJ3 : Hid (From V5.heap.size p1) := j1
   have JJ4 : Hid (From V5.heap.size p1') := j2
   clear q0 q1 q2 q3 k1 k2 j1 j2 hb HV5
   obtain ⟨V7, hV7⟩ : ∃ X, X = V6.drew := ⟨_, rfl⟩
   replace A1 : Box4 V7 w.heap.size (.bool true) (.slice (some ⟨b, o, none⟩) 9 c) (.slice (some ⟨b', o', none⟩) 9 c') (.slice a'' n'' c'') := by rw [hV7]; exact A1.drew
   replace A2 : Box4 V7 (w.heap.size + 1) (.bool false) (.slice none 0 0) (.slice none 0 0) (.slice none 0 0) := by rw [hV7]; exact A2.drew
   replace A4 : Box4 V7 (w.heap.size + 2) (.bool false) (.slice none 0 0) (.slice none 0 0) (.slice none 0 0) := by rw [hV7]; exact A4.drew
   replace D6 : Box4 V7 g0 (.bool true) (.slice p0 4 n0) (.slice p0' 4 n0') (.slice none 0 0) := by rw [hV7]; exact D6.drew
   replace D7 : Box4 V7 g1 (.bool true) (.slice p1 5 n1) (.slice p1' 5 n1') (.slice none 0 0) := by rw [hV7]; exact D7.drew
   replace hcm0 : V7.cell? ⟨b, o + 4, none⟩ = some (.string mid) := by rw [hV7]; exact hcm0
   replace HB : Below w.heap.size w V7 := by rw [hV7]; exact HB.drew
   replace KK1 : Hid (IsS V7 p0 n0 K1) := by rw [hV7]; exact KK1
   replace KK2 : Hid (IsS V7 p0' n0' X1) := by rw [hV7]; exact KK2
   replace KK3 : Hid (IsS V7 p1 n1 K2) := by rw [hV7]; exact KK3
   replace KK4 : Hid (IsS V7 p1' n1' X2) := by rw [hV7]; exact KK4
   obtain ⟨V8, hV8⟩ : ∃ X, X = ((((V7.setCell ⟨w.heap.size + 1, 0, none⟩ (.bool true)).setCell ⟨w.heap.size + 1, 1, none⟩ (.slice p0 4 n0)).setCell ⟨w.heap.size + 1, 2, none⟩ (.slice p0' 4 n0')).setCell ⟨w.heap.size + 1, 3, none⟩ (.slice none 0 0)) := ⟨_, rfl⟩
   obtain ⟨V9, hV9⟩ : ∃ X, X = ((((V8.setCell ⟨w.heap.size + 2, 0, none⟩ (.bool true)).setCell ⟨w.heap.size + 2, 1, none⟩ (.slice p1 5 n1)).setCell ⟨w.heap.size + 2, 2, none⟩ (.slice p1' 5 n1')).setCell ⟨w.heap.size + 2, 3, none⟩ (.slice none 0 0)) := ⟨_, rfl⟩
   have T8 : Turns (fun k => k = w.heap.size + 1) V7 V8 := by rw [hV8]; exact turns_put4 V7 _ _ _ _ _
   have T9 : Turns (fun k => k = w.heap.size + 2) V8 V9 := by rw [hV9]; exact turns_put4 V8 _ _ _ _ _
   have A18 := A1.turns T8 (by omega)
   have A28 : Box4 V8 (w.heap.size + 1) (.bool true) (.slice p0 4 n0) (.slice p0' 4 n0') (.slice none 0 0) := by rw [hV8]; exact A2.put _ _ _ _
   have A48 := A4.turns T8 (by omega)
   have D78 := D7.turns T8 (by omega)
   have hcm8 : V8.cell? ⟨b, o + 4, none⟩ = some (.string mid) := T8.cell (p := ⟨b, o + 4, none⟩) (by show ¬ b = w.heap.size + 1; omega) hcm0
   have A29 := A28.turns T9 (by omega)
   have A49 : Box4 V9 (w.heap.size + 2) (.bool true) (.slice p1 5 n1) (.slice p1' 5 n1') (.slice none 0 0) := by rw [hV9]; exact A48.put _ _ _ _
   have HB9 : Hid (Below w.heap.size w V9) := Below.turns (Below.turns HB T8 (fun k hk => by omega)) T9 (fun k hk => by omega)
   replace KK1 : Hid (IsS V9 p0 n0 K1) := (KK1.out.turns T8 (fun x hx e => by have := JJ1.out x hx; omega)).turns T9 (fun x hx e => by have := JJ1.out x hx; omega)
   replace KK2 : Hid (IsS V9 p0' n0' X1) := (KK2.out.turns T8 (fun x hx e => by have := JJ2.out x hx; omega)).turns T9 (fun x hx e => by have := JJ2.out x hx; omega)
   replace KK3 : Hid (IsS V9 p1 n1 K2) := (KK3.out.turns T8 (fun x hx e => by have := JJ3.out x hx; omega)).turns T9 (fun x hx e => by have := JJ3.out x hx; omega)
   replace KK4 : Hid (IsS V9 p1' n1' X2) := (KK4.out.turns T8 (fun x hx e => by have := JJ4.out x hx; omega)).turns T9 (fun x hx e => by have := JJ4.out x hx; omega)
   have hst1 : Hid ((((V7.setCell ⟨w.heap.size + 1, 0, none⟩ (.bool true)).setCell ⟨w.heap.size + 1, 1, none⟩ (.slice p0 4 n0)).setCell ⟨w.heap.size + 1, 2, none⟩ (.slice p0' 4 n0')).setCell ⟨w.heap.size + 1, 3, none⟩ (.slice none 0 0) = V8) := hV8.symm
   have hst3 : Hid ((((V8.setCell ⟨w.heap.size + 1 + 1, 0, none⟩ (.bool true)).setCell ⟨w.heap.size + 1 + 1, 1, none⟩ (.slice p1 5 n1)).setCell ⟨w.heap.size + 1 + 1, 2, none⟩ (.slice p1' 5 n1')).setCell ⟨w.heap.size + 1 + 1, 3, none⟩ (.slice none 0 0) = V9) := hV9.symm
   have HV7 : Hid (V7 = V6.drew) := hV7
   obtain ⟨⟨q0, q1, q2, q3⟩, -⟩ := A1
   obtain ⟨⟨q08, q18, q28, q38⟩, -⟩ := A18
   obtain ⟨⟨d0, d1, d2, d3⟩, -⟩ := D6
   obtain ⟨⟨e0, e1, e2, e3⟩, -⟩ := D7
   obtain ⟨⟨e08, e18, e28, e38⟩, -⟩ := D78
   obtain ⟨⟨r0, r1, r2, r3⟩, u0, u1, u2, u3⟩ := A2
   obtain ⟨⟨t0, t1, t2, t3⟩, v0, v1, v2, v3⟩ := A48
   clear hV7 hV8 hV9 T8 T9 A28 A4 HB
   go_wp2
   refine region_worlds (by kernel_rfl) [6, 7, 8] (cutV (.agg #[.bool true, .slice p0 4 n0, .slice p0' 4 n0', .slice none 0 0]) (.slice (some ⟨b, o, none⟩) 9 c) (.agg #[.bool true, .slice p1 5 n1, .slice p1' 5 n1', .slice none 0 0]) w.heap.size b o mid) (worlds4 V7 V8 V8 V9) (by kernel_rfl) (by kernel_rfl) HV7.out.symm ?step 10 rfl ?done
   case step =>
    intro i o ho kk a2 hkk hmay hdf hsz hdep hsame
    match i, ho with
    | 0, ho =>
     cases ho
     have h6 := (hsame 6 rfl)
     match kk, hkk, hmay with
     | 0, _, hq => first | (cases hq; done) | (exact val_op rfl (wanted_free rfl) (by clear hdep hsame hsz hdf; (try simp only [cutV, worlds4]); go_simp) rfl rfl)
     | 1, _, hq => first | (cases hq; done) | (exact val_op rfl (wanted_free rfl) (by clear hdep hsame hsz hdf; (try simp only [cutV, worlds4]); go_simp) rfl rfl)
     | 2, _, hq => first | (cases hq; done) | (exact val_op rfl (wanted_free rfl) (by clear hdep hsame hsz hdf; (try simp only [cutV, worlds4]); go_simp) rfl rfl)
     | 3, _, hq => first | (cases hq; done) | (exact val_op rfl (wanted_free rfl) (by clear hdep hsame hsz hdf; (try simp only [cutV, worlds4]); go_simp) rfl rfl)
     | kk + 4, hkk, _ => simp at hkk
    | 1, ho =>
     cases ho
     have h1 := (hsame 1 rfl)
     exact val_op rfl (wanted_free rfl) (by clear hdep hsame hsz hdf; (try simp only [cutV, worlds4]); go_simp) rfl rfl
    | 2, ho =>
     cases ho
     have h38 := (hdep 1 _ 38 rfl rfl rfl)
     simp only [cutV] at h38
     match kk, hkk, hmay with
     | 0, _, hq => first | (cases hq; done) | (exact val_op rfl (wanted_free rfl) (by clear hdep hsame hsz hdf; (try simp only [cutV, worlds4]); go_simp) rfl rfl)
     | 1, _, hq => first | (cases hq; done) | (exact val_op rfl (wanted_free rfl) (by clear hdep hsame hsz hdf; (try simp only [cutV, worlds4]); go_simp) rfl rfl)
     | 2, _, hq => first | (cases hq; done) | (exact val_op rfl (wanted_free rfl) (by clear hdep hsame hsz hdf; (try simp only [cutV, worlds4]); go_simp) rfl rfl)
     | 3, _, hq => first | (cases hq; done) | (exact val_op rfl (wanted_free rfl) (by clear hdep hsame hsz hdf; (try simp only [cutV, worlds4]); go_simp) rfl rfl)
     | kk + 4, hkk, _ => simp at hkk
    | 3, ho =>
     cases ho
     have h39 := (hdep 2 _ 39 rfl rfl rfl)
     simp only [cutV] at h39
     exact val_op rfl (wanted_free rfl) (by clear hdep hsame hsz hdf; (try simp only [cutV, worlds4]); go_simp) rfl rfl
    | 4, ho =>
     cases ho
     have h40 := (hdep 3 _ 40 rfl rfl rfl)
     simp only [cutV] at h40
     match kk, hkk, hmay with
     | 0, _, hq => first | (cases hq; done) | (exact val_op rfl (wanted_free rfl) (by clear hdep hsame hsz hdf; (try simp only [cutV, worlds4]); go_simp) rfl rfl)
     | 1, _, hq => first | (cases hq; done) | (exact val_op rfl (wanted_free rfl) (by clear hdep hsame hsz hdf; (try simp only [cutV, worlds4]); go_simp) rfl rfl)
     | 2, _, hq => first | (cases hq; done) | (exact val_op rfl (wanted_free rfl) (by clear hdep hsame hsz hdf; (try simp only [cutV, worlds4]); go_simp) rfl rfl)
     | 3, _, hq => first | (cases hq; done) | (exact val_op rfl (wanted_free rfl) (by clear hdep hsame hsz hdf; (try simp only [cutV, worlds4]); go_simp) rfl rfl)
     | kk + 4, hkk, _ => simp at hkk
    | 5, ho =>
     cases ho
     have h7 := (hsame 7 rfl)
     match kk, hkk, hmay with
     | 0, _, hq => first | (cases hq; done) | (exact val_op rfl (wanted_free rfl) (by clear hdep hsame hsz hdf; (try simp only [cutV, worlds4]); go_simp) rfl rfl)
     | 1, _, hq => first | (cases hq; done) | (exact val_op rfl (wanted_free rfl) (by clear hdep hsame hsz hdf; (try simp only [cutV, worlds4]); go_simp) rfl rfl)
     | 2, _, hq => first | (cases hq; done) | (exact val_op rfl (wanted_free rfl) (by clear hdep hsame hsz hdf; (try simp only [cutV, worlds4]); go_simp) rfl rfl)
     | 3, _, hq => first | (cases hq; done) | (exact val_op rfl (wanted_free rfl) (by clear hdep hsame hsz hdf; (try simp only [cutV, worlds4]); go_simp) rfl rfl)
     | kk + 4, hkk, _ => simp at hkk
    | 6, ho =>
     cases ho
     have h2 := (hsame 2 rfl)
     have h37 := (hdep 0 _ 37 rfl rfl rfl)
     simp only [cutV] at h37
     match kk, hkk, hmay with
     | 0, _, _ => exact val_skip rfl (wanted_free rfl) rfl (by clear hdep hsame hsz hdf; simp only [worlds4]; go_simp; try exact hst1.out) rfl
     | 1, _, hq => cases hq
     | 2, _, hq => cases hq
     | 3, _, hq => cases hq
     | kk + 4, hkk, _ => simp at hkk
    | 7, ho =>
     cases ho
     have h41 := (hdep 4 _ 41 rfl rfl rfl)
     simp only [cutV] at h41
     match kk, hkk, hmay with
     | 0, _, hq => cases hq
     | 1, _, _ => exact val_op rfl (wanted_free rfl) (by clear hdep hsame hsz hdf; (try simp only [cutV, worlds4]); go_simp) rfl rfl
     | 2, _, hq => cases hq
     | 3, _, hq => cases hq
     | kk + 4, hkk, _ => simp at hkk
    | 8, ho =>
     cases ho
     have h4 := (hsame 4 rfl)
     have h42 := (hdep 5 _ 42 rfl rfl rfl)
     simp only [cutV] at h42
     match kk, hkk, hmay with
     | 0, _, hq => cases hq
     | 1, _, hq => cases hq
     | 2, _, _ => exact val_skip rfl (wanted_free rfl) rfl (by clear hdep hsame hsz hdf; simp only [worlds4]; go_simp; try exact hst3.out) rfl
     | 3, _, hq => cases hq
     | kk + 4, hkk, _ => simp at hkk
    | 9, ho =>
     cases ho
     exact val_op rfl (wanted_free rfl) (by clear hdep hsame hsz hdf; (try simp only [cutV, worlds4]); go_simp) rfl rfl
    | kk + 10, ho => simp at ho
   case done =>
    simp [filledN, cutV, worlds4]
    obtain ⟨⟨x0, x1, x2, x3⟩, -⟩ := A29
    obtain ⟨⟨y0, y1, y2, y3⟩, -⟩ := A49
    go_wp2
    refine bodyPost_ret (v := .tuple #[.agg #[.bool true, .slice p0 4 n0, .slice p0' 4 n0', .slice none 0 0], .string mid, .agg #[.bool true, .slice p1 5 n1, .slice p1' 5 n1', .slice none 0 0], .int .i64 0]) (by simp [results, Tryz.results87, go_sem, x0, x1, x2, x3, y0, y1, y2, y3]) rfl ⟨p0, n0, p0', n0', p1, n1, p1', n1', rfl, KK1.out, KK2.out, KK3.out, KK4.out, ⟨JJ1.out.mono (by omega), JJ2.out.mono (by omega), JJ3.out.mono (by omega), JJ4.out.mono (by omega)⟩, HB9.out⟩
def LaidI (V0 V : World) (g : Nat) (p : Option Addr) (q : Nat) (p' : Option Addr) (q' : Nat) (xs : List ByteArray) (ys : List Int) : Prop :=
 Box4 V g (.bool false) (.slice p 4 q) (.slice none 0 0) (.slice p' 5 q') ∧ V0.heap.size ≤ g ∧ Below V0.heap.size V0 V ∧ IsS V p q xs ∧ IsI V p' q' ys ∧ From V0.heap.size p ∧ From V0.heap.size p'
set_option maxRecDepth 20000 in
set_option maxHeartbeats 1000000 in
theorem cutInner_any (b o c b' o' c' : Nat) (a'' : Option Addr) (c'' n'' : Nat) (ks : List ByteArray) (cs : List Int) (w : World)
  (hn : 9 = ks.length) (hn'' : n'' = ([] : List ByteArray).length) (hn' : 10 = cs.length) (hK : IsS w (some ⟨b, o, none⟩) c ks) (hC : IsS w a'' c'' []) (hV : IsI w (some ⟨b', o', none⟩) c' cs) (hs : standsN false ks [] cs = true) {mid : ByteArray} (hmid : ks[4]? = some mid) :
  Calls Tryz.prog 87 #[.agg #[.bool false, .slice (some ⟨b, o, none⟩) 9 c, .slice a'' n'' c'', .slice (some ⟨b', o', none⟩) 10 c']] w fun x w' => ∃ p q p' q' r s r' s', x = .returned (.tuple #[.agg #[.bool false, .slice p 4 q, .slice none 0 0, .slice p' 5 q'], .string mid, .agg #[.bool false, .slice r 4 s, .slice none 0 0, .slice r' 5 s'], .int .i64 0]) ∧
   IsS w' p q (ks.take 4) ∧ IsI w' p' q' (cs.take 5) ∧ IsS w' r s (ks.drop 5) ∧ IsI w' r' s' (cs.drop 5) ∧ (From w.heap.size p ∧ From w.heap.size p' ∧ From w.heap.size r ∧ From w.heap.size r') ∧ Below w.heap.size w w' := by
 obtain ⟨W, hW⟩ : ∃ W, W = ((w.alloc (.cells #[.bool false, .slice (some ⟨b, o, none⟩) 9 c, .slice a'' n'' c'', .slice (some ⟨b', o', none⟩) 10 c'] 76)).alloc (.cells #[.bool false, .slice none 0 0, .slice none 0 0, .slice none 0 0] 76)).alloc (.cells #[.bool false, .slice none 0 0, .slice none 0 0, .slice none 0 0] 76) := ⟨_, rfl⟩
 have A1 : Box4 W w.heap.size (.bool false) (.slice (some ⟨b, o, none⟩) 9 c) (.slice a'' n'' c'') (.slice (some ⟨b', o', none⟩) 10 c') := by rw [hW]; exact ((box4_new _ _ _ _ _ _ rfl).alloc _).alloc _
 have A2 : Box4 W (w.heap.size + 1) (.bool false) (.slice none 0 0) (.slice none 0 0) (.slice none 0 0) := by rw [hW]; exact (box4_new _ _ _ _ _ _ (by simp)).alloc _
 have A4 : Box4 W (w.heap.size + 2) (.bool false) (.slice none 0 0) (.slice none 0 0) (.slice none 0 0) := by rw [hW]; exact box4_new _ _ _ _ _ _ (by simp)
 have HB : Below w.heap.size w W := by rw [hW]; exact (((Below.refl _ _).alloc (Nat.le_refl _) _).alloc (by simp) _).alloc (by simp; omega) _
 have c1 : ∀ V, Below w.heap.size w V → Calls Tryz.prog 81 #[.agg #[.bool false, .slice (some ⟨b, o, none⟩) 9 c, .slice a'' n'' c'', .slice (some ⟨b', o', none⟩) 10 c']] V fun e w' => e = .returned (.bool true) ∧ Below V.heap.size V w' := fun V h => by have := mayStand_any false (some ⟨b, o, none⟩) a'' (some ⟨b', o', none⟩) c c'' c' 9 n'' 10 ks [] cs V hn hn'' hn' (hK.below h) (hC.below h) (hV.below h); rw [hs] at this; exact this
 have cP : ∀ V, Below w.heap.size w V → Calls Tryz.prog 106 #[.slice (some ⟨b, o, none⟩) 4 c, .slice (some ⟨b', o', none⟩) 5 c'] V fun e w' => ∃ p q p' q', e = .returned (.agg #[.bool false, .slice p 4 q, .slice none 0 0, .slice p' 5 q']) ∧ IsS w' p q (ks.take 4) ∧ IsI w' p' q' (cs.take 5) ∧ From V.heap.size p ∧ From V.heap.size p' ∧ Below V.heap.size V w' := fun V h => innerPart_any _ _ c c' 4 5 (ks.take 4) (cs.take 5) V (by rw [List.length_take]; omega) (by rw [List.length_take]; omega) ((hK.take 4).below h) ((hV.take 5).below h) (by omega) (by omega)
 have cQ : ∀ V, Below w.heap.size w V → Calls Tryz.prog 106 #[.slice (some ⟨b, o + 5, none⟩) 4 (c - 5), .slice (some ⟨b', o' + 5, none⟩) 5 (c' - 5)] V fun e w' => ∃ p q p' q', e = .returned (.agg #[.bool false, .slice p 4 q, .slice none 0 0, .slice p' 5 q']) ∧ IsS w' p q (ks.drop 5) ∧ IsI w' p' q' (cs.drop 5) ∧ From V.heap.size p ∧ From V.heap.size p' ∧ Below V.heap.size V w' := fun V h => innerPart_any _ _ _ _ 4 5 (ks.drop 5) (cs.drop 5) V (by rw [List.length_drop]; omega) (by rw [List.length_drop]; omega) ((isS_drop hK 5 (by omega)).below h) ((isI_drop hV 5 (by omega)).below h) (by omega) (by omega)
 obtain ⟨_, _, hbo, hbl, hcm, hms⟩ := hK.2.2 4 mid hmid
 cases hbo
 have hc9 : 9 ≤ c := by rw [hn]; exact hK.1
 have hc9' : 10 ≤ c' := by rw [hn']; exact hV.1
 have hcM : c ≤ 9223372036854775807 := hK.2.1
 have hcM' : c' ≤ 9223372036854775807 := hV.2.1
 generalize ks.take 4 = K1 at *
 generalize ks.drop 5 = K2 at *
 generalize cs.take 5 = X1 at *
 generalize cs.drop 5 = X2 at *
 have hcm0 := cell_below HB hcm
 clear hn hn' hn'' hK hV hC hs hmid hcm
 obtain ⟨⟨q0, q1, q2, q3⟩, -⟩ := id A1
 have i1 : (4 : Int) ≤ c := by omega
 have i2 : (5 : Int) ≤ c' := by omega
 have i1' : (5 : Int) ≤ c := by omega
 have i3 : 5 < c := by omega
 have i4 : 5 < c' := by omega
 have i5 : ¬ c = 5 := by omega
 have i6 : ¬ c' = 5 := by omega
 have i7 : 4 < c := by omega
 go_enter Tryz.func87, Tryz.ntmps87
 go_wp2_with (go_at_call 81; rw [← hW]; refine (c1 _ HB).mono ?_; rintro y w1 ⟨rfl, hb⟩; replace HB := Below.tr HB hb; replace A1 := A1.below hb; replace A2 := A2.below hb; replace A4 := A4.below hb; replace hcm0 := cell_below hb hcm0; clear q0 q1 q2 q3; obtain ⟨⟨q0, q1, q2, q3⟩, -⟩ := id A1; clear hb)
 obtain ⟨V0, hV0⟩ : ∃ X, X = w1.drew := ⟨_, rfl⟩
 replace HB : Below w.heap.size w V0 := by rw [hV0]; exact HB.drew
 replace A1 : Box4 V0 w.heap.size (.bool false) (.slice (some ⟨b, o, none⟩) 9 c) (.slice a'' n'' c'') (.slice (some ⟨b', o', none⟩) 10 c') := by rw [hV0]; exact A1.drew
 replace A2 : Box4 V0 (w.heap.size + 1) (.bool false) (.slice none 0 0) (.slice none 0 0) (.slice none 0 0) := by rw [hV0]; exact A2.drew
 replace A4 : Box4 V0 (w.heap.size + 2) (.bool false) (.slice none 0 0) (.slice none 0 0) (.slice none 0 0) := by rw [hV0]; exact A4.drew
 clear q0 q1 q2 q3
 obtain ⟨⟨q0, q1, q2, q3⟩, -⟩ := id A1
 have HV0 : Hid (V0 = w1.drew) := hV0
 clear hV0
 refine (fun (key : Hid (∀ V g p q p' q', LaidI V0 V g p q p' q' K1 X1 → (?propV0 : World → Nat → Option Addr → Nat → Option Addr → Nat → Prop) V g p q p' q')) => ?regV0) ?kontV0
 case regV0 =>
  refine wp_region_noPanic ?_
  refine wp_region_held_drew (S := fun V => V.cell? ⟨w.heap.size, 1, none⟩ = some (.slice (some ⟨b, o, none⟩) 9 c) ∧ V.cell? ⟨w.heap.size, 3, none⟩ = some (.slice (some ⟨b', o', none⟩) 10 c')) (by kernel_rfl) (by rw [← HV0.out]; exact ⟨q1, q3⟩) (fun hHeld => ?_)
  rw [← HV0.out] at hHeld ⊢
  refine take_at (i := 0) (v := ?_) rfl (by kernel_rfl) (by kernel_rfl) (by kernel_rfl) (fun _ _ _ h => h) (Or.inl ⟨by rfl, ?_⟩) (by assumption) ?_
  rotate_left 1
  ·
   (intro w hSw; (try dsimp only at hSw); go_simp; (try with_reducible rfl))
  try go_frame
  refine take_at (i := 1) (v := ?_) rfl (by kernel_rfl) (by kernel_rfl) (by kernel_rfl) (fun _ _ _ h => h) (Or.inl ⟨by rfl, ?_⟩) (by assumption) ?_
  rotate_left 1
  ·
   (intro w hSw; (try dsimp only at hSw); go_simp; (try with_reducible rfl))
  try go_frame
  refine take_at (i := 2) (v := ?_) rfl (by kernel_rfl) (by kernel_rfl) (by kernel_rfl) (fun _ _ _ h => h) (Or.inl ⟨by rfl, ?_⟩) (by assumption) ?_
  rotate_left 1
  ·
   (intro w hSw; (try dsimp only at hSw); go_simp; (try with_reducible rfl))
  try go_frame
  refine take_at (i := 3) (v := ?_) rfl (by kernel_rfl) (by kernel_rfl) (by kernel_rfl) (fun _ _ _ h => h) (Or.inl ⟨by rfl, ?_⟩) (by assumption) ?_
  rotate_left 1
  ·
   (intro w hSw; (try dsimp only at hSw); go_simp; (try with_reducible rfl))
  try go_frame
  refine take_at (i := 4) (v := ?_) rfl (by kernel_rfl) (by kernel_rfl) (by kernel_rfl) (fun _ _ _ h => h) (Or.inl ⟨by rfl, ?_⟩) (by assumption) ?_
  rotate_left 1
  ·
   (intro w hSw; (try dsimp only at hSw); go_simp; (try with_reducible rfl))
  try go_frame
  refine take_at (i := 5) (v := ?_) rfl (by kernel_rfl) (by kernel_rfl) (by kernel_rfl) (fun _ _ _ h => h) (Or.inl ⟨by rfl, ?_⟩) (by assumption) ?_
  rotate_left 1
  ·
   (intro w hSw; (try dsimp only at hSw); go_simp; (try with_reducible rfl))
  try go_frame
  refine wpAnyH_ready (rs := [6, 7]) (by kernel_rfl) (by simp) ?_
  refine cons_at (i := 6) rfl (fun K hK => ?callFirstV0) (cons_at (i := 7) rfl (fun K hK => ?allocFirstV0) AllReadyH.nil)
  case callFirstV0 =>
   go_simp
   go_at_call 106
   refine (cP _ HB).mono ?_
   rintro y u ⟨p, q, p', q', rfl, k1, k2, j1, j2, hb⟩
   have s1 := cell_below hb q1
   have s2 := cell_below hb q3
   refine hK.out _ _ ?_ (fun hHeld2 => ?_)
   ·
    exact ⟨s1, s2⟩
   clear hK K
   try go_frame
   refine wpAnyH_ready (rs := [7]) (by kernel_rfl) (by simp) ?_
   refine cons_at (i := 7) rfl (fun K hK => ?_) AllReadyH.nil
   go_simp
   refine hK.out _ _ ?_ (fun hHeld3 => ?_)
   ·
    exact ⟨cell_alloc s1 _, cell_alloc s2 _⟩
   clear hK K
   try go_frame
   refine wpAnyH_ready (rs := [8]) (by kernel_rfl) (by simp) ?_
   refine cons_at (i := 8) rfl (fun K hK => ?_) AllReadyH.nil
   go_simp
   have hA := (Below.refl u.heap.size u).alloc (Nat.le_refl _) (.cells #[.bool false, .slice p 4 q, .slice none 0 0, .slice p' 5 q'] 76)
   have F : LaidI V0 (u.alloc (.cells #[.bool false, .slice p 4 q, .slice none 0 0, .slice p' 5 q'] 76)) u.heap.size p q p' q' K1 X1 := ⟨box4_new _ _ _ _ _ _ rfl, hb.size, hb.alloc hb.size _, k1.below hA, k2.below hA, j1, j2⟩
   refine hK.out _ _ ?_ (fun hHeld4 => ?_)
   ·
    exact ⟨cell_alloc s1 _, cell_alloc s2 _⟩
   clear hK K
   try go_frame
   refine wpAnyH_done (by kernel_rfl) ?_ _
   refine NoPanic.normal ?_
   clear hHeld hHeld2 hHeld3 hHeld4 hA
   generalize u.alloc (.cells #[.bool false, .slice p 4 q, .slice none 0 0, .slice p' 5 q'] 76) = V at F ⊢
   generalize u.heap.size = g at F ⊢
   exact key.out V g p q p' q' F
  case allocFirstV0 =>
   go_simp
   refine hK.out _ _ ?_ (fun hHeld2 => ?_)
   ·
    exact ⟨cell_alloc q1 _, cell_alloc q3 _⟩
   clear hK K
   try go_frame
   refine wpAnyH_ready (rs := [6]) (by kernel_rfl) (by simp) ?_
   refine cons_at (i := 6) rfl (fun K hK => ?_) AllReadyH.nil
   go_simp
   go_at_call 106
   have hA := (Below.refl V0.heap.size V0).alloc (Nat.le_refl _) (.cells #[.bool false, .slice none 0 0, .slice none 0 0, .slice none 0 0] 76)
   have bZ := box4_new V0 (.bool false) (.slice none 0 0) (.slice none 0 0) (.slice none 0 0) 76 rfl
   refine (cP _ (Below.tr HB hA)).mono ?_
   rintro y u ⟨p, q, p', q', rfl, k1, k2, j1, j2, hb⟩
   have s1 := cell_below hb (cell_alloc q1 _)
   have s2 := cell_below hb (cell_alloc q3 _)
   replace bZ := bZ.below hb
   obtain ⟨⟨z0, z1, z2, z3⟩, y0, y1, y2, y3⟩ := id bZ
   refine hK.out _ _ ?_ (fun hHeld3 => ?_)
   ·
    exact ⟨s1, s2⟩
   clear hK K
   try go_frame
   refine wpAnyH_ready (rs := [8]) (by kernel_rfl) (by simp) ?_
   refine cons_at (i := 8) rfl (fun K hK => ?_) AllReadyH.nil
   go_simp
   have T4 := turns_put4 u V0.heap.size (.bool false) (.slice p 4 q) (.slice none 0 0) (.slice p' 5 q')
   have hlt : w.heap.size < V0.heap.size := A1.lt
   have F : LaidI V0 ((((u.setCell ⟨V0.heap.size, 0, none⟩ (.bool false)).setCell ⟨V0.heap.size, 1, none⟩ (.slice p 4 q)).setCell ⟨V0.heap.size, 2, none⟩ (.slice none 0 0)).setCell ⟨V0.heap.size, 3, none⟩ (.slice p' 5 q')) V0.heap.size p q p' q' K1 X1 :=
    ⟨bZ.put _ _ _ _, Nat.le_refl _, Below.turns (hA.trans (hb.mono (by simp))) T4 (fun k hk => by omega), k1.turns T4 (fun x hx e => by have := j1 x hx; simp at this; omega), k2.turns T4 (fun x hx e => by have := j2 x hx; simp at this; omega), j1.mono (by simp), j2.mono (by simp)⟩
   refine hK.out _ _ ?_ (fun hHeld4 => ?_)
   ·
    exact ⟨T4.cell (p := ⟨w.heap.size, 1, none⟩) (by show ¬ w.heap.size = _; omega) s1, T4.cell (p := ⟨w.heap.size, 3, none⟩) (by show ¬ w.heap.size = _; omega) s2⟩
   clear hK K
   try go_frame
   refine wpAnyH_done (by kernel_rfl) ?_ _
   refine NoPanic.normal ?_
   exact key.out _ _ p q p' q' F
 case kontV0 =>
  intro V g0 p0 n0 p0' n0' hF
  obtain ⟨D6, hg, hb, k1, k2, j1, j2⟩ := hF
  have hlt1 : w.heap.size + 2 < V0.heap.size := A4.lt
  have hVs : V0.heap.size ≤ V.heap.size := hb.size
  replace A1 := A1.below hb
  replace A2 := A2.below hb
  replace A4 := A4.below hb
  replace HB := Below.tr HB hb
  replace hcm0 : V0.cell? ⟨b, o + 4, none⟩ = some (.string mid) := by rw [HV0.out]; exact hcm0
  replace hcm0 := cell_below hb hcm0
  have KK1 : Hid (IsS V p0 n0 K1) := k1
  have KK2 : Hid (IsI V p0' n0' X1) := k2
  have JJ1 : Hid (From V0.heap.size p0) := j1
  have JJ2 : Hid (From V0.heap.size p0') := j2
  clear q0 q1 q2 q3 k1 k2 j1 j2 hb HV0
  obtain ⟨⟨q0, q1, q2, q3⟩, -⟩ := id A1
  go_wp2
  obtain ⟨V5, hV5⟩ : ∃ X, X = V.drew := ⟨_, rfl⟩
  replace HB : Below w.heap.size w V5 := by rw [hV5]; exact HB.drew
  replace A1 : Box4 V5 w.heap.size (.bool false) (.slice (some ⟨b, o, none⟩) 9 c) (.slice a'' n'' c'') (.slice (some ⟨b', o', none⟩) 10 c') := by rw [hV5]; exact A1.drew
  replace A2 : Box4 V5 (w.heap.size + 1) (.bool false) (.slice none 0 0) (.slice none 0 0) (.slice none 0 0) := by rw [hV5]; exact A2.drew
  replace A4 : Box4 V5 (w.heap.size + 2) (.bool false) (.slice none 0 0) (.slice none 0 0) (.slice none 0 0) := by rw [hV5]; exact A4.drew
  clear q0 q1 q2 q3
  obtain ⟨⟨q0, q1, q2, q3⟩, -⟩ := id A1
  have HV5 : Hid (V5 = V.drew) := hV5
  clear hV5
  refine (fun (key : Hid (∀ V g p q p' q', LaidI V5 V g p q p' q' K2 X2 → (?propV5 : World → Nat → Option Addr → Nat → Option Addr → Nat → Prop) V g p q p' q')) => ?regV5) ?kontV5
  case regV5 =>
   refine wp_region_noPanic ?_
   refine wp_region_held_drew (S := fun V => V.cell? ⟨w.heap.size, 1, none⟩ = some (.slice (some ⟨b, o, none⟩) 9 c) ∧ V.cell? ⟨w.heap.size, 3, none⟩ = some (.slice (some ⟨b', o', none⟩) 10 c')) (by kernel_rfl) (by rw [← HV5.out]; exact ⟨q1, q3⟩) (fun hHeld => ?_)
   rw [← HV5.out] at hHeld ⊢
   refine take_at (i := 0) (v := ?_) rfl (by kernel_rfl) (by kernel_rfl) (by kernel_rfl) (fun _ _ _ h => h) (Or.inl ⟨by rfl, ?_⟩) (by assumption) ?_
   rotate_left 1
   ·
    (intro w hSw; (try dsimp only at hSw); go_simp; (try with_reducible rfl))
   try go_frame
   refine take_at (i := 1) (v := ?_) rfl (by kernel_rfl) (by kernel_rfl) (by kernel_rfl) (fun _ _ _ h => h) (Or.inl ⟨by rfl, ?_⟩) (by assumption) ?_
   rotate_left 1
   ·
    (intro w hSw; (try dsimp only at hSw); go_simp; (try with_reducible rfl))
   try go_frame
   refine take_at (i := 2) (v := ?_) rfl (by kernel_rfl) (by kernel_rfl) (by kernel_rfl) (fun _ _ _ h => h) (Or.inl ⟨by rfl, ?_⟩) (by assumption) ?_
   rotate_left 1
   ·
    (intro w hSw; (try dsimp only at hSw); go_simp; (try with_reducible rfl))
   try go_frame
   refine take_at (i := 3) (v := ?_) rfl (by kernel_rfl) (by kernel_rfl) (by kernel_rfl) (fun _ _ _ h => h) (Or.inl ⟨by rfl, ?_⟩) (by assumption) ?_
   rotate_left 1
   ·
    (intro w hSw; (try dsimp only at hSw); go_simp; (try with_reducible rfl))
   try go_frame
   refine take_at (i := 4) (v := ?_) rfl (by kernel_rfl) (by kernel_rfl) (by kernel_rfl) (fun _ _ _ h => h) (Or.inl ⟨by rfl, ?_⟩) (by assumption) ?_
   rotate_left 1
   ·
    (intro w hSw; (try dsimp only at hSw); go_simp; (try with_reducible rfl))
   try go_frame
   refine take_at (i := 5) (v := ?_) rfl (by kernel_rfl) (by kernel_rfl) (by kernel_rfl) (fun _ _ _ h => h) (Or.inl ⟨by rfl, ?_⟩) (by assumption) ?_
   rotate_left 1
   ·
    (intro w hSw; (try dsimp only at hSw); go_simp; (try with_reducible rfl))
   try go_frame
   refine wpAnyH_ready (rs := [6, 7]) (by kernel_rfl) (by simp) ?_
   refine cons_at (i := 6) rfl (fun K hK => ?callFirstV5) (cons_at (i := 7) rfl (fun K hK => ?allocFirstV5) AllReadyH.nil)
   case callFirstV5 =>
    go_simp
    go_at_call 106
    refine (cQ _ HB).mono ?_
    rintro y u ⟨p, q, p', q', rfl, k1, k2, j1, j2, hb⟩
    have s1 := cell_below hb q1
    have s2 := cell_below hb q3
    refine hK.out _ _ ?_ (fun hHeld2 => ?_)
    ·
     exact ⟨s1, s2⟩
    clear hK K
    try go_frame
    refine wpAnyH_ready (rs := [7]) (by kernel_rfl) (by simp) ?_
    refine cons_at (i := 7) rfl (fun K hK => ?_) AllReadyH.nil
    go_simp
    refine hK.out _ _ ?_ (fun hHeld3 => ?_)
    ·
     exact ⟨cell_alloc s1 _, cell_alloc s2 _⟩
    clear hK K
    try go_frame
    refine wpAnyH_ready (rs := [8]) (by kernel_rfl) (by simp) ?_
    refine cons_at (i := 8) rfl (fun K hK => ?_) AllReadyH.nil
    go_simp
    have hA := (Below.refl u.heap.size u).alloc (Nat.le_refl _) (.cells #[.bool false, .slice p 4 q, .slice none 0 0, .slice p' 5 q'] 76)
    have F : LaidI V5 (u.alloc (.cells #[.bool false, .slice p 4 q, .slice none 0 0, .slice p' 5 q'] 76)) u.heap.size p q p' q' K2 X2 := ⟨box4_new _ _ _ _ _ _ rfl, hb.size, hb.alloc hb.size _, k1.below hA, k2.below hA, j1, j2⟩
    refine hK.out _ _ ?_ (fun hHeld4 => ?_)
    ·
     exact ⟨cell_alloc s1 _, cell_alloc s2 _⟩
    clear hK K
    try go_frame
    refine wpAnyH_done (by kernel_rfl) ?_ _
    refine NoPanic.normal ?_
    clear hHeld hHeld2 hHeld3 hHeld4 hA
    generalize u.alloc (.cells #[.bool false, .slice p 4 q, .slice none 0 0, .slice p' 5 q'] 76) = V at F ⊢
    generalize u.heap.size = g at F ⊢
    exact key.out V g p q p' q' F
   case allocFirstV5 =>
    go_simp
    refine hK.out _ _ ?_ (fun hHeld2 => ?_)
    ·
     exact ⟨cell_alloc q1 _, cell_alloc q3 _⟩
    clear hK K
    try go_frame
    refine wpAnyH_ready (rs := [6]) (by kernel_rfl) (by simp) ?_
    refine cons_at (i := 6) rfl (fun K hK => ?_) AllReadyH.nil
    go_simp
    go_at_call 106
    have hA := (Below.refl V5.heap.size V5).alloc (Nat.le_refl _) (.cells #[.bool false, .slice none 0 0, .slice none 0 0, .slice none 0 0] 76)
    have bZ := box4_new V5 (.bool false) (.slice none 0 0) (.slice none 0 0) (.slice none 0 0) 76 rfl
    refine (cQ _ (Below.tr HB hA)).mono ?_
    rintro y u ⟨p, q, p', q', rfl, k1, k2, j1, j2, hb⟩
    have s1 := cell_below hb (cell_alloc q1 _)
    have s2 := cell_below hb (cell_alloc q3 _)
    replace bZ := bZ.below hb
    obtain ⟨⟨z0, z1, z2, z3⟩, y0, y1, y2, y3⟩ := id bZ
    refine hK.out _ _ ?_ (fun hHeld3 => ?_)
    ·
     exact ⟨s1, s2⟩
    clear hK K
    try go_frame
    refine wpAnyH_ready (rs := [8]) (by kernel_rfl) (by simp) ?_
    refine cons_at (i := 8) rfl (fun K hK => ?_) AllReadyH.nil
    go_simp
    have T4 := turns_put4 u V5.heap.size (.bool false) (.slice p 4 q) (.slice none 0 0) (.slice p' 5 q')
    have hlt : w.heap.size < V5.heap.size := A1.lt
    have F : LaidI V5 ((((u.setCell ⟨V5.heap.size, 0, none⟩ (.bool false)).setCell ⟨V5.heap.size, 1, none⟩ (.slice p 4 q)).setCell ⟨V5.heap.size, 2, none⟩ (.slice none 0 0)).setCell ⟨V5.heap.size, 3, none⟩ (.slice p' 5 q')) V5.heap.size p q p' q' K2 X2 :=
     ⟨bZ.put _ _ _ _, Nat.le_refl _, Below.turns (hA.trans (hb.mono (by simp))) T4 (fun k hk => by omega), k1.turns T4 (fun x hx e => by have := j1 x hx; simp at this; omega), k2.turns T4 (fun x hx e => by have := j2 x hx; simp at this; omega), j1.mono (by simp), j2.mono (by simp)⟩
    refine hK.out _ _ ?_ (fun hHeld4 => ?_)
    ·
     exact ⟨T4.cell (p := ⟨w.heap.size, 1, none⟩) (by show ¬ w.heap.size = _; omega) s1, T4.cell (p := ⟨w.heap.size, 3, none⟩) (by show ¬ w.heap.size = _; omega) s2⟩
    clear hK K
    try go_frame
    refine wpAnyH_done (by kernel_rfl) ?_ _
    refine NoPanic.normal ?_
    exact key.out _ _ p q p' q' F
  case kontV5 =>
   intro V6 g1 p1 n1 p1' n1' hF
   obtain ⟨D7, hg1, hb, k1, k2, j1, j2⟩ := hF
   replace A1 := A1.below hb
   replace A2 := A2.below hb
   replace A4 := A4.below hb
   replace D6 : Box4 V5 g0 (.bool false) (.slice p0 4 n0) (.slice none 0 0) (.slice p0' 5 n0') := by rw [HV5.out]; exact D6.drew
   replace D6 := D6.below hb
   replace HB := Below.tr HB hb
   replace hcm0 : V5.cell? ⟨b, o + 4, none⟩ = some (.string mid) := by rw [HV5.out]; exact hcm0
   replace hcm0 := cell_below hb hcm0
   have hV5s : V.heap.size ≤ V5.heap.size := by rw [HV5.out]; exact Nat.le_refl _
   replace KK1 : Hid (IsS V6 p0 n0 K1) := IsS.below (w := V5) (by rw [HV5.out]; exact KK1.out) hb
   replace KK2 : Hid (IsI V6 p0' n0' X1) := IsI.below (w := V5) (by rw [HV5.out]; exact KK2.out) hb
   have KK3 : Hid (IsS V6 p1 n1 K2) := k1
   have KK4 : Hid (IsI V6 p1' n1' X2) := k2
   have JJ3 : Hid (From V5.heap.size p1) := j1
   have JJ4 : Hid (From V5.heap.size p1') := j2
   clear q0 q1 q2 q3 k1 k2 j1 j2 hb HV5
   obtain ⟨V7, hV7⟩ : ∃ X, X = V6.drew := ⟨_, rfl⟩
   replace A1 : Box4 V7 w.heap.size (.bool false) (.slice (some ⟨b, o, none⟩) 9 c) (.slice a'' n'' c'') (.slice (some ⟨b', o', none⟩) 10 c') := by rw [hV7]; exact A1.drew
   replace A2 : Box4 V7 (w.heap.size + 1) (.bool false) (.slice none 0 0) (.slice none 0 0) (.slice none 0 0) := by rw [hV7]; exact A2.drew
   replace A4 : Box4 V7 (w.heap.size + 2) (.bool false) (.slice none 0 0) (.slice none 0 0) (.slice none 0 0) := by rw [hV7]; exact A4.drew
   replace D6 : Box4 V7 g0 (.bool false) (.slice p0 4 n0) (.slice none 0 0) (.slice p0' 5 n0') := by rw [hV7]; exact D6.drew
   replace D7 : Box4 V7 g1 (.bool false) (.slice p1 4 n1) (.slice none 0 0) (.slice p1' 5 n1') := by rw [hV7]; exact D7.drew
   replace hcm0 : V7.cell? ⟨b, o + 4, none⟩ = some (.string mid) := by rw [hV7]; exact hcm0
   replace HB : Below w.heap.size w V7 := by rw [hV7]; exact HB.drew
   replace KK1 : Hid (IsS V7 p0 n0 K1) := by rw [hV7]; exact KK1
   replace KK2 : Hid (IsI V7 p0' n0' X1) := by rw [hV7]; exact KK2
   replace KK3 : Hid (IsS V7 p1 n1 K2) := by rw [hV7]; exact KK3
   replace KK4 : Hid (IsI V7 p1' n1' X2) := by rw [hV7]; exact KK4
   obtain ⟨V8, hV8⟩ : ∃ X, X = ((((V7.setCell ⟨w.heap.size + 1, 0, none⟩ (.bool false)).setCell ⟨w.heap.size + 1, 1, none⟩ (.slice p0 4 n0)).setCell ⟨w.heap.size + 1, 2, none⟩ (.slice none 0 0)).setCell ⟨w.heap.size + 1, 3, none⟩ (.slice p0' 5 n0')) := ⟨_, rfl⟩
   obtain ⟨V9, hV9⟩ : ∃ X, X = ((((V8.setCell ⟨w.heap.size + 2, 0, none⟩ (.bool false)).setCell ⟨w.heap.size + 2, 1, none⟩ (.slice p1 4 n1)).setCell ⟨w.heap.size + 2, 2, none⟩ (.slice none 0 0)).setCell ⟨w.heap.size + 2, 3, none⟩ (.slice p1' 5 n1')) := ⟨_, rfl⟩
   have T8 : Turns (fun k => k = w.heap.size + 1) V7 V8 := by rw [hV8]; exact turns_put4 V7 _ _ _ _ _
   have T9 : Turns (fun k => k = w.heap.size + 2) V8 V9 := by rw [hV9]; exact turns_put4 V8 _ _ _ _ _
   have A18 := A1.turns T8 (by omega)
   have A28 : Box4 V8 (w.heap.size + 1) (.bool false) (.slice p0 4 n0) (.slice none 0 0) (.slice p0' 5 n0') := by rw [hV8]; exact A2.put _ _ _ _
   have A48 := A4.turns T8 (by omega)
   have D78 := D7.turns T8 (by omega)
   have hcm8 : V8.cell? ⟨b, o + 4, none⟩ = some (.string mid) := T8.cell (p := ⟨b, o + 4, none⟩) (by show ¬ b = w.heap.size + 1; omega) hcm0
   have A29 := A28.turns T9 (by omega)
   have A49 : Box4 V9 (w.heap.size + 2) (.bool false) (.slice p1 4 n1) (.slice none 0 0) (.slice p1' 5 n1') := by rw [hV9]; exact A48.put _ _ _ _
   have HB9 : Hid (Below w.heap.size w V9) := Below.turns (Below.turns HB T8 (fun k hk => by omega)) T9 (fun k hk => by omega)
   replace KK1 : Hid (IsS V9 p0 n0 K1) := (KK1.out.turns T8 (fun x hx e => by have := JJ1.out x hx; omega)).turns T9 (fun x hx e => by have := JJ1.out x hx; omega)
   replace KK2 : Hid (IsI V9 p0' n0' X1) := (KK2.out.turns T8 (fun x hx e => by have := JJ2.out x hx; omega)).turns T9 (fun x hx e => by have := JJ2.out x hx; omega)
   replace KK3 : Hid (IsS V9 p1 n1 K2) := (KK3.out.turns T8 (fun x hx e => by have := JJ3.out x hx; omega)).turns T9 (fun x hx e => by have := JJ3.out x hx; omega)
   replace KK4 : Hid (IsI V9 p1' n1' X2) := (KK4.out.turns T8 (fun x hx e => by have := JJ4.out x hx; omega)).turns T9 (fun x hx e => by have := JJ4.out x hx; omega)
   have hst1 : Hid ((((V7.setCell ⟨w.heap.size + 1, 0, none⟩ (.bool false)).setCell ⟨w.heap.size + 1, 1, none⟩ (.slice p0 4 n0)).setCell ⟨w.heap.size + 1, 2, none⟩ (.slice none 0 0)).setCell ⟨w.heap.size + 1, 3, none⟩ (.slice p0' 5 n0') = V8) := hV8.symm
   have hst3 : Hid ((((V8.setCell ⟨w.heap.size + 1 + 1, 0, none⟩ (.bool false)).setCell ⟨w.heap.size + 1 + 1, 1, none⟩ (.slice p1 4 n1)).setCell ⟨w.heap.size + 1 + 1, 2, none⟩ (.slice none 0 0)).setCell ⟨w.heap.size + 1 + 1, 3, none⟩ (.slice p1' 5 n1') = V9) := hV9.symm
   have HV7 : Hid (V7 = V6.drew) := hV7
   obtain ⟨⟨q0, q1, q2, q3⟩, -⟩ := A1
   obtain ⟨⟨q08, q18, q28, q38⟩, -⟩ := A18
   obtain ⟨⟨d0, d1, d2, d3⟩, -⟩ := D6
   obtain ⟨⟨e0, e1, e2, e3⟩, -⟩ := D7
   obtain ⟨⟨e08, e18, e28, e38⟩, -⟩ := D78
   obtain ⟨⟨r0, r1, r2, r3⟩, u0, u1, u2, u3⟩ := A2
   obtain ⟨⟨t0, t1, t2, t3⟩, v0, v1, v2, v3⟩ := A48
   clear hV7 hV8 hV9 T8 T9 A28 A4 HB
   go_wp2
   refine region_worlds (by kernel_rfl) [6, 7, 8] (cutV (.agg #[.bool false, .slice p0 4 n0, .slice none 0 0, .slice p0' 5 n0']) (.slice (some ⟨b, o, none⟩) 9 c) (.agg #[.bool false, .slice p1 4 n1, .slice none 0 0, .slice p1' 5 n1']) w.heap.size b o mid) (worlds4 V7 V8 V8 V9) (by kernel_rfl) (by kernel_rfl) HV7.out.symm ?step 10 rfl ?done
   case step =>
    intro i o ho kk a2 hkk hmay hdf hsz hdep hsame
    match i, ho with
    | 0, ho =>
     cases ho
     have h8 := (hsame 8 rfl)
     match kk, hkk, hmay with
     | 0, _, hq => first | (cases hq; done) | (exact val_op rfl (wanted_free rfl) (by clear hdep hsame hsz hdf; (try simp only [cutV, worlds4]); go_simp) rfl rfl)
     | 1, _, hq => first | (cases hq; done) | (exact val_op rfl (wanted_free rfl) (by clear hdep hsame hsz hdf; (try simp only [cutV, worlds4]); go_simp) rfl rfl)
     | 2, _, hq => first | (cases hq; done) | (exact val_op rfl (wanted_free rfl) (by clear hdep hsame hsz hdf; (try simp only [cutV, worlds4]); go_simp) rfl rfl)
     | 3, _, hq => first | (cases hq; done) | (exact val_op rfl (wanted_free rfl) (by clear hdep hsame hsz hdf; (try simp only [cutV, worlds4]); go_simp) rfl rfl)
     | kk + 4, hkk, _ => simp at hkk
    | 1, ho =>
     cases ho
     have h1 := (hsame 1 rfl)
     exact val_op rfl (wanted_free rfl) (by clear hdep hsame hsz hdf; (try simp only [cutV, worlds4]); go_simp) rfl rfl
    | 2, ho =>
     cases ho
     have h58 := (hdep 1 _ 58 rfl rfl rfl)
     simp only [cutV] at h58
     match kk, hkk, hmay with
     | 0, _, hq => first | (cases hq; done) | (exact val_op rfl (wanted_free rfl) (by clear hdep hsame hsz hdf; (try simp only [cutV, worlds4]); go_simp) rfl rfl)
     | 1, _, hq => first | (cases hq; done) | (exact val_op rfl (wanted_free rfl) (by clear hdep hsame hsz hdf; (try simp only [cutV, worlds4]); go_simp) rfl rfl)
     | 2, _, hq => first | (cases hq; done) | (exact val_op rfl (wanted_free rfl) (by clear hdep hsame hsz hdf; (try simp only [cutV, worlds4]); go_simp) rfl rfl)
     | 3, _, hq => first | (cases hq; done) | (exact val_op rfl (wanted_free rfl) (by clear hdep hsame hsz hdf; (try simp only [cutV, worlds4]); go_simp) rfl rfl)
     | kk + 4, hkk, _ => simp at hkk
    | 3, ho =>
     cases ho
     have h59 := (hdep 2 _ 59 rfl rfl rfl)
     simp only [cutV] at h59
     exact val_op rfl (wanted_free rfl) (by clear hdep hsame hsz hdf; (try simp only [cutV, worlds4]); go_simp) rfl rfl
    | 4, ho =>
     cases ho
     have h60 := (hdep 3 _ 60 rfl rfl rfl)
     simp only [cutV] at h60
     match kk, hkk, hmay with
     | 0, _, hq => first | (cases hq; done) | (exact val_op rfl (wanted_free rfl) (by clear hdep hsame hsz hdf; (try simp only [cutV, worlds4]); go_simp) rfl rfl)
     | 1, _, hq => first | (cases hq; done) | (exact val_op rfl (wanted_free rfl) (by clear hdep hsame hsz hdf; (try simp only [cutV, worlds4]); go_simp) rfl rfl)
     | 2, _, hq => first | (cases hq; done) | (exact val_op rfl (wanted_free rfl) (by clear hdep hsame hsz hdf; (try simp only [cutV, worlds4]); go_simp) rfl rfl)
     | 3, _, hq => first | (cases hq; done) | (exact val_op rfl (wanted_free rfl) (by clear hdep hsame hsz hdf; (try simp only [cutV, worlds4]); go_simp) rfl rfl)
     | kk + 4, hkk, _ => simp at hkk
    | 5, ho =>
     cases ho
     have h9 := (hsame 9 rfl)
     match kk, hkk, hmay with
     | 0, _, hq => first | (cases hq; done) | (exact val_op rfl (wanted_free rfl) (by clear hdep hsame hsz hdf; (try simp only [cutV, worlds4]); go_simp) rfl rfl)
     | 1, _, hq => first | (cases hq; done) | (exact val_op rfl (wanted_free rfl) (by clear hdep hsame hsz hdf; (try simp only [cutV, worlds4]); go_simp) rfl rfl)
     | 2, _, hq => first | (cases hq; done) | (exact val_op rfl (wanted_free rfl) (by clear hdep hsame hsz hdf; (try simp only [cutV, worlds4]); go_simp) rfl rfl)
     | 3, _, hq => first | (cases hq; done) | (exact val_op rfl (wanted_free rfl) (by clear hdep hsame hsz hdf; (try simp only [cutV, worlds4]); go_simp) rfl rfl)
     | kk + 4, hkk, _ => simp at hkk
    | 6, ho =>
     cases ho
     have h2 := (hsame 2 rfl)
     have h57 := (hdep 0 _ 57 rfl rfl rfl)
     simp only [cutV] at h57
     match kk, hkk, hmay with
     | 0, _, _ => exact val_skip rfl (wanted_free rfl) rfl (by clear hdep hsame hsz hdf; simp only [worlds4]; go_simp; try exact hst1.out) rfl
     | 1, _, hq => cases hq
     | 2, _, hq => cases hq
     | 3, _, hq => cases hq
     | kk + 4, hkk, _ => simp at hkk
    | 7, ho =>
     cases ho
     have h61 := (hdep 4 _ 61 rfl rfl rfl)
     simp only [cutV] at h61
     match kk, hkk, hmay with
     | 0, _, hq => cases hq
     | 1, _, _ => exact val_op rfl (wanted_free rfl) (by clear hdep hsame hsz hdf; (try simp only [cutV, worlds4]); go_simp) rfl rfl
     | 2, _, hq => cases hq
     | 3, _, hq => cases hq
     | kk + 4, hkk, _ => simp at hkk
    | 8, ho =>
     cases ho
     have h4 := (hsame 4 rfl)
     have h62 := (hdep 5 _ 62 rfl rfl rfl)
     simp only [cutV] at h62
     match kk, hkk, hmay with
     | 0, _, hq => cases hq
     | 1, _, hq => cases hq
     | 2, _, _ => exact val_skip rfl (wanted_free rfl) rfl (by clear hdep hsame hsz hdf; simp only [worlds4]; go_simp; try exact hst3.out) rfl
     | 3, _, hq => cases hq
     | kk + 4, hkk, _ => simp at hkk
    | 9, ho =>
     cases ho
     exact val_op rfl (wanted_free rfl) (by clear hdep hsame hsz hdf; (try simp only [cutV, worlds4]); go_simp) rfl rfl
    | kk + 10, ho => simp at ho
   case done =>
    simp [filledN, cutV, worlds4]
    obtain ⟨⟨x0, x1, x2, x3⟩, -⟩ := A29
    obtain ⟨⟨y0, y1, y2, y3⟩, -⟩ := A49
    go_wp2
    refine bodyPost_ret (v := .tuple #[.agg #[.bool false, .slice p0 4 n0, .slice none 0 0, .slice p0' 5 n0'], .string mid, .agg #[.bool false, .slice p1 4 n1, .slice none 0 0, .slice p1' 5 n1'], .int .i64 0]) (by simp [results, Tryz.results87, go_sem, x0, x1, x2, x3, y0, y1, y2, y3]) rfl ⟨p0, n0, p0', n0', p1, n1, p1', n1', rfl, KK1.out, KK2.out, KK3.out, KK4.out, ⟨JJ1.out.mono (by omega), JJ2.out.mono (by omega), JJ3.out.mono (by omega), JJ4.out.mono (by omega)⟩, HB9.out⟩
end Go.Proofs.YtaecfbfcjaailaaGreat
namespace Go.Proofs.YtaecfbfcjaailaaGreat
open Go.RowKit Plain
set_option linter.unusedVariables false
def cutOk (l : Bool) (ks vs : List ByteArray) (cs : List Int) : Bool := standsN l ks vs cs && decide (ks.length = 9)
def cutL (l : Bool) (ks vs : List ByteArray) (cs : List Int) : Bool := cutOk l ks vs cs && l
def cutAK (l : Bool) (ks vs : List ByteArray) (cs : List Int) : List ByteArray := if cutOk l ks vs cs = true then ks.take 4 else []
def cutAV (l : Bool) (ks vs : List ByteArray) (cs : List Int) : List ByteArray := if cutOk l ks vs cs = true then vs.take 4 else []
def cutAC (l : Bool) (ks vs : List ByteArray) (cs : List Int) : List Int := if cutOk l ks vs cs = true then cs.take 5 else []
def cutBK (l : Bool) (ks vs : List ByteArray) (cs : List Int) : List ByteArray := if cutOk l ks vs cs = true then ks.drop (cutFrom l) else []
def cutBV (l : Bool) (ks vs : List ByteArray) (cs : List Int) : List ByteArray := if cutOk l ks vs cs = true then vs.drop 4 else []
def cutBC (l : Bool) (ks vs : List ByteArray) (cs : List Int) : List Int := if cutOk l ks vs cs = true then cs.drop 5 else []
def cutM (l : Bool) (ks vs : List ByteArray) (cs : List Int) : ByteArray := if cutOk l ks vs cs = true then ks.getD 4 ⟨#[]⟩ else ⟨#[]⟩
def cutEr (l : Bool) (ks vs : List ByteArray) (cs : List Int) : Int := if cutOk l ks vs cs = true then 0 else 1
def Answers2F (w : World) (x : Ending) (w' : World) (l : Bool) (ks vs : List ByteArray) (cs : List Int) (mid : ByteArray) (ks2 vs2 : List ByteArray) (cs2 : List Int) (E : Int) : Prop :=
 ∃ n a d n' a' d' n'' a'' d'' m e f m' e' f' m'' e'' f'', x = .returned (.tuple #[.agg #[.bool l, .slice a n d, .slice a' n' d', .slice a'' n'' d''], .string mid, .agg #[.bool l, .slice e m f, .slice e' m' f', .slice e'' m'' f''], .int .i64 E]) ∧
  n = ks.length ∧ n' = vs.length ∧ n'' = cs.length ∧ m = ks2.length ∧ m' = vs2.length ∧ m'' = cs2.length ∧
  IsS w' a d ks ∧ IsS w' a' d' vs ∧ IsI w' a'' d'' cs ∧ IsS w' e f ks2 ∧ IsS w' e' f' vs2 ∧ IsI w' e'' f'' cs2 ∧ (From w.heap.size a ∧ From w.heap.size a' ∧ From w.heap.size a'' ∧ From w.heap.size e ∧ From w.heap.size e' ∧ From w.heap.size e'') ∧ Below w.heap.size w w'
set_option maxRecDepth 20000 in
set_option maxHeartbeats 1000000 in
theorem cutBadF_any (l : Bool) (a a' a'' : Option Addr) (c c' c'' n n' n'' : Nat) (ks vs : List ByteArray) (cs : List Int) (w : World)
  (hn : n = ks.length) (hn' : n' = vs.length) (hn'' : n'' = cs.length) (hK : IsS w a c ks) (hV : IsS w a' c' vs) (hC : IsI w a'' c'' cs) (hbad : ¬ (standsN l ks vs cs = true ∧ ks.length = 9)) :
  Calls Tryz.prog 87 #[.agg #[.bool l, .slice a n c, .slice a' n' c', .slice a'' n'' c'']] w fun x w' => Answers2F w x w' false [] [] [] ⟨#[]⟩ [] [] [] 1 := by
 obtain ⟨W, hW⟩ : ∃ W, W = ((w.alloc (.cells #[.bool l, .slice a n c, .slice a' n' c', .slice a'' n'' c''] 76)).alloc (.cells #[.bool false, .slice none 0 0, .slice none 0 0, .slice none 0 0] 76)).alloc (.cells #[.bool false, .slice none 0 0, .slice none 0 0, .slice none 0 0] 76) := ⟨_, rfl⟩
 have A1 : Box4 W w.heap.size (.bool l) (.slice a n c) (.slice a' n' c') (.slice a'' n'' c'') := by rw [hW]; exact ((box4_new _ _ _ _ _ _ rfl).alloc _).alloc _
 have A2 : Box4 W (w.heap.size + 1) (.bool false) (.slice none 0 0) (.slice none 0 0) (.slice none 0 0) := by rw [hW]; exact (box4_new _ _ _ _ _ _ (by simp)).alloc _
 have A4 : Box4 W (w.heap.size + 2) (.bool false) (.slice none 0 0) (.slice none 0 0) (.slice none 0 0) := by rw [hW]; exact box4_new _ _ _ _ _ _ (by simp)
 have HB : Below w.heap.size w W := by rw [hW]; exact (((Below.refl _ _).alloc (Nat.le_refl _) _).alloc (by simp) _).alloc (by simp; omega) _
 have c1 : ∀ V, Below w.heap.size w V → Calls Tryz.prog 81 #[.agg #[.bool l, .slice a n c, .slice a' n' c', .slice a'' n'' c'']] V fun e w' => e = .returned (.bool (standsN l ks vs cs)) ∧ Below V.heap.size V w' := fun V h => mayStand_any l a a' a'' c c' c'' n n' n'' ks vs cs V hn hn' hn'' (hK.below h) (hV.below h) (hC.below h)
 have hn9 : standsN l ks vs cs = true → ¬ n = 9 := fun h hh => hbad ⟨h, by omega⟩
 clear hbad hn hn' hn'' hK hV hC
 have hle : w.heap.size ≤ w.heap.size + 1 := by omega
 have hle2 : w.heap.size ≤ w.heap.size + 1 + 1 := by omega
 obtain ⟨⟨q0, q1, q2, q3⟩, -⟩ := id A1
 cases h1 : standsN l ks vs cs with
 | false =>
  rw [h1] at c1
  clear h1 hn9
  go_enter Tryz.func87, Tryz.ntmps87
  go_wp2_with (go_at_call 81; rw [← hW]; refine (c1 _ HB).mono ?_; rintro y w1 ⟨rfl, hb⟩; replace HB := Below.tr HB hb; replace A2 := A2.below hb; replace A4 := A4.below hb; obtain ⟨⟨r0, r1, r2, r3⟩, g0, g1, g2, g3⟩ := id A2; obtain ⟨⟨s0, s1, s2, s3⟩, t0, t1, t2, t3⟩ := id A4; clear q0 q1 q2 q3 hb)
  exact bodyPost_ret (v := .tuple #[.agg #[.bool false, .slice none 0 0, .slice none 0 0, .slice none 0 0], .string ⟨#[]⟩, .agg #[.bool false, .slice none 0 0, .slice none 0 0, .slice none 0 0], .int .i64 1]) (by simp [results, Tryz.results87, go_sem, r0, r1, r2, r3, s0, s1, s2, s3]) rfl ⟨0, none, 0, 0, none, 0, 0, none, 0, 0, none, 0, 0, none, 0, 0, none, 0, rfl, rfl, rfl, rfl, rfl, rfl, rfl, isS_nil _, isS_nil _, isI_nil _, isS_nil _, isS_nil _, isI_nil _, ⟨from_nil _, from_nil _, from_nil _, from_nil _, from_nil _, from_nil _⟩, below_put4 (below_put4 HB hle _ _ _ _) hle2 _ _ _ _⟩
 | true =>
  replace hn9 := hn9 h1
  rw [h1] at c1
  clear h1
  go_enter Tryz.func87, Tryz.ntmps87
  go_wp2_with (go_at_call 81; rw [← hW]; refine (c1 _ HB).mono ?_; rintro y w1 ⟨rfl, hb⟩; replace HB := Below.tr HB hb; replace A1 := A1.below hb; replace A2 := A2.below hb; replace A4 := A4.below hb; obtain ⟨⟨r0, r1, r2, r3⟩, g0, g1, g2, g3⟩ := id A2; obtain ⟨⟨s0, s1, s2, s3⟩, t0, t1, t2, t3⟩ := id A4; clear q0 q1 q2 q3; obtain ⟨⟨q0, q1, q2, q3⟩, -⟩ := id A1; clear hb)
  exact bodyPost_ret (v := .tuple #[.agg #[.bool false, .slice none 0 0, .slice none 0 0, .slice none 0 0], .string ⟨#[]⟩, .agg #[.bool false, .slice none 0 0, .slice none 0 0, .slice none 0 0], .int .i64 1]) (by simp [results, Tryz.results87, go_sem, r0, r1, r2, r3, s0, s1, s2, s3]) rfl ⟨0, none, 0, 0, none, 0, 0, none, 0, 0, none, 0, 0, none, 0, 0, none, 0, rfl, rfl, rfl, rfl, rfl, rfl, rfl, isS_nil _, isS_nil _, isI_nil _, isS_nil _, isS_nil _, isI_nil _, ⟨from_nil _, from_nil _, from_nil _, from_nil _, from_nil _, from_nil _⟩, below_put4 (below_put4 HB hle _ _ _ _) hle2 _ _ _ _⟩
theorem nodeCutF_any (l : Bool) (a a' a'' : Option Addr) (c c' c'' n n' n'' : Nat) (ks vs : List ByteArray) (cs : List Int) (w : World)
  (hn : n = ks.length) (hn' : n' = vs.length) (hn'' : n'' = cs.length) (hK : IsS w a c ks) (hV : IsS w a' c' vs) (hC : IsI w a'' c'' cs) :
  Calls Tryz.prog 87 #[.agg #[.bool l, .slice a n c, .slice a' n' c', .slice a'' n'' c'']] w fun x w' => Answers2F w x w' (cutL l ks vs cs) (cutAK l ks vs cs) (cutAV l ks vs cs) (cutAC l ks vs cs) (cutM l ks vs cs) (cutBK l ks vs cs) (cutBV l ks vs cs) (cutBC l ks vs cs) (cutEr l ks vs cs) := by
 by_cases h : standsN l ks vs cs = true ∧ ks.length = 9
 ·
  have hok : cutOk l ks vs cs = true := by unfold cutOk; rw [h.1, decide_eq_true h.2]; rfl
  unfold cutL cutAK cutAV cutAC cutM cutBK cutBV cutBC cutEr
  rw [hok]
  simp only [if_true, Bool.true_and]
  obtain ⟨h1, h9⟩ := h
  have hl4 : 4 < ks.length := by omega
  have hm : ks[4]? = some (ks.getD 4 ⟨#[]⟩) := by rw [List.getD_eq_getElem?_getD, List.getElem?_eq_getElem hl4]; rfl
  obtain rfl : n = 9 := by omega
  cases l with
  | true =>
   obtain ⟨rfl, hv⟩ := leaf_one_eq h1
   obtain rfl : n' = 9 := by omega
   obtain ⟨b, o, rfl⟩ : ∃ b o, a = some ⟨b, o, none⟩ := by
    obtain ⟨b, o, e, _⟩ := hK.2.2 4 _ hm
    exact ⟨b, o, e⟩
   obtain ⟨b', o', rfl⟩ : ∃ b o, a' = some ⟨b, o, none⟩ := by
    obtain ⟨b, o, e, _⟩ := hV.2.2 4 _ (List.getElem?_eq_getElem (by omega))
    exact ⟨b, o, e⟩
   refine (cutLeaf_any b o c b' o' c' a'' c'' n'' ks vs w hn hn' hn'' hK hV hC h1 hm).mono fun x w' hx => ?_
   obtain ⟨p, q, p', q', r, s, r', s', rfl, k1, k2, k3, k4, ⟨f1, f2, f3, f4⟩, hb⟩ := hx
   refine ⟨4, p, q, 4, p', q', 0, none, 0, 5, r, s, 5, r', s', 0, none, 0, rfl, ?_, ?_, by simp, ?_, ?_, by simp, k1, k2, ?_, ?_, k4, ?_, ⟨f1, f2, from_nil _, f3, f4, from_nil _⟩, hb⟩
   ·
    rw [List.length_take]; omega
   ·
    rw [List.length_take]; omega
   ·
    rw [List.length_drop]; unfold cutFrom; simp; omega
   ·
    rw [List.length_drop]; omega
   ·
    simpa using isI_nil _
   ·
    exact k3
   ·
    simpa using isI_nil _
  | false =>
   obtain ⟨rfl, hv, _⟩ := inner_one_eq h1
   obtain rfl : n'' = 10 := by omega
   obtain ⟨b, o, rfl⟩ : ∃ b o, a = some ⟨b, o, none⟩ := by
    obtain ⟨b, o, e, _⟩ := hK.2.2 4 _ hm
    exact ⟨b, o, e⟩
   obtain ⟨b', o', rfl⟩ : ∃ b o, a'' = some ⟨b, o, none⟩ := by
    obtain ⟨b, o, e, _⟩ := hC.2.2 4 _ (List.getElem?_eq_getElem (by omega))
    exact ⟨b, o, e⟩
   refine (cutInner_any b o c b' o' c'' a' c' n' ks cs w hn hn' hn'' hK hV hC h1 hm).mono fun x w' hx => ?_
   obtain ⟨p, q, p', q', r, s, r', s', rfl, k1, k2, k3, k4, ⟨f1, f2, f3, f4⟩, hb⟩ := hx
   refine ⟨4, p, q, 0, none, 0, 5, p', q', 4, r, s, 0, none, 0, 5, r', s', rfl, ?_, by simp, ?_, ?_, by simp, ?_, k1, ?_, k2, ?_, ?_, k4, ⟨f1, from_nil _, f2, f3, from_nil _, f4⟩, hb⟩
   ·
    rw [List.length_take]; omega
   ·
    rw [List.length_take]; omega
   ·
    rw [List.length_drop]; unfold cutFrom; simp; omega
   ·
    rw [List.length_drop]; omega
   ·
    simpa using isS_nil _
   ·
    exact k3
   ·
    simpa using isS_nil _
 ·
  have hok : cutOk l ks vs cs = false := by
   unfold cutOk
   cases hh : standsN l ks vs cs with
   | false => rfl
   | true => simp only [Bool.true_and, decide_eq_false_iff_not]; exact fun h9 => h ⟨hh, h9⟩
  unfold cutL cutAK cutAV cutAC cutM cutBK cutBV cutBC cutEr
  rw [hok]
  simp only [Bool.false_eq_true, if_false, Bool.false_and]
  exact cutBadF_any l a a' a'' c c' c'' n n' n'' ks vs cs w hn hn' hn'' hK hV hC h
end Go.Proofs.YtaecfbfcjaailaaGreat
namespace Go.Proofs.YtaecfbfcjaailaaGreat.Plain
open Go.RowKit
set_option linter.unusedVariables false
theorem within_low {x low high : ByteArray} (h : withinS x low high = true) : ltB x low = false := by
 unfold withinS at h
 cases hh : ltB x low with
 | false => rfl
 | true => rw [hh] at h; simp at h
theorem within_high {x low high : ByteArray} (h : withinS x low high = true) : high.size = 0 ∨ ltB x high = true := by
 unfold withinS at h
 simp only [Bool.and_eq_true, Bool.or_eq_true, decide_eq_true_eq] at h
 exact h.2
def keyIn (x : ByteArray) : Prop := 1 ≤ x.size ∧ x.size ≤ 32
def getP : List (ByteArray × ByteArray) → ByteArray → ByteArray × Int
 | [], _ => (⟨#[]⟩, 80)
 | p :: ps, key => if p.1 = key then (p.2, 0) else getP ps key
theorem getP_skip {ps : List (ByteArray × ByteArray)} {key : ByteArray} {j : Nat} {p : ByteArray × ByteArray} (hp : ps[j]? = some p) (h : ∀ i q, i < j → ps[i]? = some q → q.1 ≠ key) (hk : p.1 = key) : getP ps key = (p.2, 0) := by
 induction ps generalizing j with
 | nil => simp at hp
 | cons q ps ih =>
  cases j with
  | zero => simp at hp; subst hp; rw [getP, if_pos hk]
  | succ j =>
   rw [getP, if_neg (h 0 q (by omega) rfl)]
   exact ih (by simpa using hp) (fun i q' hi hq => h (i + 1) q' (by omega) (by simpa using hq))
theorem getP_none {ps : List (ByteArray × ByteArray)} {key : ByteArray} (h : ∀ q ∈ ps, q.1 ≠ key) : getP ps key = (⟨#[]⟩, 80) := by
 induction ps with
 | nil => rfl
 | cons q ps ih =>
  rw [getP, if_neg (h q (by simp))]
  exact ih fun q' hq => h q' (by simp [hq])
def Rising (ps : List (ByteArray × ByteArray)) : Prop := ps.Pairwise fun a b => ltB a.1 b.1 = true
theorem get_at_ {ps : List (ByteArray × ByteArray)} (h : Rising ps) {j : Nat} {p : ByteArray × ByteArray} (hp : ps[j]? = some p) : getP ps p.1 = (p.2, 0) := by
 refine getP_skip hp (fun i q hi hq e => ?_) rfl
 have h1 := (List.getElem?_eq_some_iff.1 hp)
 have h2 := (List.getElem?_eq_some_iff.1 hq)
 obtain ⟨a1, rfl⟩ := h1
 obtain ⟨a2, rfl⟩ := h2
 have := List.pairwise_iff_getElem.1 h i j a2 a1 hi
 rw [e, ltB_irrefl] at this
 cases this
theorem pairs_all {H : Int → Bool → Option NodeS} {P : ByteArray × ByteArray → Prop} (hH : ∀ b r (n : NodeS), H b r = some n → n.1 = true → ∀ q ∈ n.2.1.zip n.2.2.1, P q) : ∀ (k : Nat) (t : TreeS) (block : Int) (low high : ByteArray), (∀ q ∈ t.pairs, P q) → ∀ q ∈ (belowS H k t block low high).pairs, P q
 | 0, t, block, low, high, h => h
 | k + 1, t, block, low, high, h => by
  unfold belowS
  split
  ·
   exact h
  ·
   split
   ·
    exact h
   ·
    rename_i n hn
    have h1 : ∀ q ∈ (t.node block low high n).pairs, P q := by
     intro q hq
     unfold TreeS.node at hq
     cases hl : n.1 with
     | true =>
      rw [hl] at hq
      rcases List.mem_append.1 hq with h2 | h2
      ·
       exact h q h2
      ·
       exact hH _ _ _ hn hl q h2
     | false => rw [hl] at hq; exact h q hq
    split
    ·
     exact h
    ·
     split
     ·
      exact h1
     ·
      have fold : ∀ (l : List (Int × ByteArray × ByteArray)) (t0 : TreeS), (∀ q ∈ t0.pairs, P q) → ∀ q ∈ (l.foldl (fun t x => if t.bad then t else belowS H k t x.1 x.2.1 x.2.2) t0).pairs, P q := by
       intro l
       induction l with
       | nil => exact fun t0 h0 => h0
       | cons x l ih =>
        intro t0 h0
        rw [List.foldl_cons]
        refine ih _ ?_
        split
        ·
         exact h0
        ·
         exact pairs_all hH k t0 _ _ _ h0
      exact fold _ _ h1
theorem kidN_le (ks : List ByteArray) (key : ByteArray) : kidN ks key ≤ ks.length := by unfold kidN; exact List.countP_le_length
theorem leaf_get {ks vs : List ByteArray} (hr : risingK ks = true) (hl : vs.length = ks.length) (key : ByteArray) : getP (ks.zip vs) key = if isN ks key = true then (vs.getD (findN key ks) ⟨#[]⟩, 0) else (⟨#[]⟩, 80) := by
 have hm : (ks.zip vs).map Prod.fst = ks := List.map_fst_zip (by omega)
 have hR : Rising (ks.zip vs) := by
  have := rising_pair hr
  rw [← hm, List.pairwise_map] at this
  exact this
 split
 ·
  rename_i hi
  have h1 := isN_iff.1 hi
  have h2 := (List.getElem?_eq_some_iff.1 h1).1
  have h3 : vs[findN key ks]? = some (vs.getD (findN key ks) ⟨#[]⟩) := by rw [List.getD_eq_getElem?_getD, List.getElem?_eq_getElem (by omega)]; rfl
  have h4 : (ks.zip vs)[findN key ks]? = some (key, vs.getD (findN key ks) ⟨#[]⟩) := by rw [List.getElem?_zip_eq_some]; exact ⟨h1, h3⟩
  exact get_at_ hR h4
 ·
  rename_i hi
  refine getP_none fun q hq e => hi ?_
  obtain ⟨j, hj⟩ := List.mem_iff_getElem?.1 hq
  rw [List.getElem?_zip_eq_some] at hj
  rw [e] at hj
  exact isN_iff.2 (by rw [findN_there hr hj.1]; exact hj.1)
def withinK (ks : List ByteArray) (low high : ByteArray) : Bool :=
 !ks.isEmpty && (!ltB (ks.getD 0 ⟨#[]⟩) low && (decide (high.size = 0) || ltB (ks.getD (ks.length - 1) ⟨#[]⟩) high))
def visitS (H : Int → Bool → Option NodeS) (lv : Int) (k : Nat) (block : Int) (low high : ByteArray) : Option NodeS :=
 match k with
 | 0 => none
 | k + 1 => match H block (decide (k = 7)) with
  | none => none
  | some n => if withinK n.2.1 low high = true ∧ (n.1 = true → lv = 0 ∨ lv = 8 - (k : Int)) then some n else none
theorem visitS_some {H : Int → Bool → Option NodeS} {lv : Int} {k : Nat} {block : Int} {low high : ByteArray} {n : NodeS} (h : visitS H lv (k + 1) block low high = some n) : H block (decide (k = 7)) = some n ∧ withinK n.2.1 low high = true ∧ (n.1 = true → lv = 0 ∨ lv = 8 - (k : Int)) := by
 unfold visitS at h
 simp only at h
 split at h
 ·
  cases h
 ·
  rename_i n' hn
  split at h
  ·
   rename_i hh; cases h; exact ⟨hn, hh⟩
  ·
   cases h
def findS (H : Int → Bool → Option NodeS) (key : ByteArray) : Nat → Int → ByteArray → ByteArray → ByteArray × Int
 | 0, _, _, _ => (⟨#[]⟩, 81)
 | k + 1, block, low, high => match visitS H 0 (k + 1) block low high with
  | none => (⟨#[]⟩, 81)
  | some n => if n.1 = true then getP (n.2.1.zip n.2.2.1) key else findS H key k (n.2.2.2.getD (kidN n.2.1 key) 0) (kidFrom low n.2.1 (kidN n.2.1 key)) (kidTo high n.2.1 (kidN n.2.1 key))
theorem getP_ends (ps : List (ByteArray × ByteArray)) (key : ByteArray) : (getP ps key).2 = 0 ∨ (getP ps key).1 = ⟨#[]⟩ ∧ ((getP ps key).2 = 80 ∨ (getP ps key).2 = 81) := by
 induction ps with
 | nil => exact .inr ⟨rfl, .inl rfl⟩
 | cons p ps ih =>
  rw [getP]
  split
  ·
   exact .inl rfl
  ·
   exact ih
theorem findS_ends (H : Int → Bool → Option NodeS) (key : ByteArray) : ∀ (k : Nat) (block : Int) (low high : ByteArray), (findS H key k block low high).2 = 0 ∨ (findS H key k block low high).1 = ⟨#[]⟩ ∧ ((findS H key k block low high).2 = 80 ∨ (findS H key k block low high).2 = 81)
 | 0, _, _, _ => .inr ⟨rfl, .inr rfl⟩
 | k + 1, block, low, high => by
  unfold findS
  split
  ·
   exact .inr ⟨rfl, .inr rfl⟩
  ·
   split
   ·
    exact getP_ends _ _
   ·
    exact findS_ends H key k _ _ _
abbrev Sub := Int → ByteArray → ByteArray → List (ByteArray × ByteArray) → List Int → Prop
inductive Chain (P : Sub) : ByteArray → List ByteArray → List Int → ByteArray → List (ByteArray × ByteArray) → List Int → Prop
 | one {low high : ByteArray} {b : Int} {Q : List (ByteArray × ByteArray)} {B : List Int} (h : P b low high Q B) : Chain P low [] [b] high Q B
 | cons {low m high : ByteArray} {b : Int} {ks : List ByteArray} {cs : List Int} {Q Q' : List (ByteArray × ByteArray)} {B B' : List Int} (h : P b low m Q B) (t : Chain P m ks cs high Q' B') : Chain P low (m :: ks) (b :: cs) high (Q ++ Q') (B ++ B')
theorem Chain.length {P : Sub} {low high : ByteArray} {ks : List ByteArray} {cs : List Int} {Q : List (ByteArray × ByteArray)} {B : List Int} (h : Chain P low ks cs high Q B) : cs.length = ks.length + 1 := by
 induction h with
 | one h => rfl
 | cons h t ih => simp [ih]
theorem Chain.mono {P P' : Sub} {low high : ByteArray} {ks : List ByteArray} {cs : List Int} {Q : List (ByteArray × ByteArray)} {B : List Int} (h : Chain P low ks cs high Q B) (hp : ∀ b l u Q' B', (∀ x ∈ B', x ∈ B) → P b l u Q' B' → P' b l u Q' B') : Chain P' low ks cs high Q B := by
 induction h with
 | one h => exact .one (hp _ _ _ _ _ (fun x hx => hx) h)
 | cons h t ih => exact .cons (hp _ _ _ _ _ (fun x hx => by simp [hx]) h) (ih fun b l u Q' B' hb => hp b l u Q' B' fun x hx => by simp [hb x hx])
theorem Chain.cut {P : Sub} {low high m : ByteArray} {ks1 ks2 : List ByteArray} {cs : List Int} {Q : List (ByteArray × ByteArray)} {B : List Int} (h : Chain P low (ks1 ++ m :: ks2) cs high Q B) :
  ∃ Q1 Q2 B1 B2, Chain P low ks1 (cs.take (ks1.length + 1)) m Q1 B1 ∧ Chain P m ks2 (cs.drop (ks1.length + 1)) high Q2 B2 ∧ Q = Q1 ++ Q2 ∧ B = B1 ++ B2 := by
 induction ks1 generalizing low cs Q B with
 | nil =>
  cases h with
  | cons h t => exact ⟨_, _, _, _, by simpa using Chain.one h, by simpa using t, rfl, rfl⟩
 | cons k ks1 ih =>
  cases h with
  | cons h t =>
   obtain ⟨Q1, Q2, B1, B2, c1, c2, e1, e2⟩ := ih t
   subst e1 e2
   exact ⟨_, _, _, _, by simpa using Chain.cons h c1, by simpa using c2, by rw [List.append_assoc], by rw [List.append_assoc]⟩
def Body (P : Sub) (ht : Nat) (n : NodeS) (low high : ByteArray) (Q : List (ByteArray × ByteArray)) (B : List Int) : Prop :=
 (n.1 = true ∧ ht = 0 ∧ n.2.1 ≠ [] ∧ Q = n.2.1.zip n.2.2.1 ∧ B = []) ∨ (n.1 = false ∧ ht ≠ 0 ∧ Chain P low n.2.1 n.2.2.2 high Q B)
def TreeOf (H : Int → Bool → Option NodeS) : Nat → Bool → Sub
 | 0, _, _, _, _, _, _ => False
 | ht + 1, r, block, low, high, Q, B => ∃ n C, H block r = some n ∧ (∀ x ∈ n.2.1, withinS x low high = true) ∧ B = block :: C ∧ Body (TreeOf H ht false) ht n low high Q C
theorem TreeOf.mono {H H' : Int → Bool → Option NodeS} : ∀ {ht : Nat} {r : Bool} {block : Int} {low high : ByteArray} {Q : List (ByteArray × ByteArray)} {B : List Int}, TreeOf H ht r block low high Q B → (∀ b ∈ B, ∀ r, H' b r = H b r) → TreeOf H' ht r block low high Q B
 | 0, _, _, _, _, _, _, h, _ => h
 | ht + 1, r, block, low, high, Q, B, ⟨n, C, h1, h2, h3, h4⟩, hh => by
  refine ⟨n, C, by rw [hh block (by rw [h3]; simp)]; exact h1, h2, h3, ?_⟩
  rcases h4 with h4 | ⟨a, b, c⟩
  ·
   exact .inl h4
  ·
   exact .inr ⟨a, b, c.mono fun b l u Q' B' hb hx => hx.mono fun y hy => hh y (by rw [h3]; simp [hb y hy])⟩
theorem Body.mono {H H' : Int → Bool → Option NodeS} {ht : Nat} {n : NodeS} {low high : ByteArray} {Q : List (ByteArray × ByteArray)} {B : List Int} (h : Body (TreeOf H ht false) ht n low high Q B) (hh : ∀ b ∈ B, ∀ r, H' b r = H b r) : Body (TreeOf H' ht false) ht n low high Q B := by
 rcases h with h | ⟨a, b, c⟩
 ·
  exact .inl h
 ·
  exact .inr ⟨a, b, c.mono fun b l u Q' B' hb hx => hx.mono fun y hy => hh y (hb y hy)⟩
theorem within_any {ks : List ByteArray} {low high : ByteArray} (h : ∀ x ∈ ks, withinS x low high = true) : (ks.any fun k => !withinS k low high) = false := by
 rw [List.any_eq_false]
 intro x hx
 rw [h x hx]; decide
end Go.Proofs.YtaecfbfcjaailaaGreat.Plain
namespace Go.Proofs.YtaecfbfcjaailaaGreat
open Go.RowKit Plain
set_option linter.unusedVariables false
structure WoodS where
 base : List Bool
 now : List Bool
 pages : List ByteArray
 root : Int
 gen : Int
def WoodS.none : WoodS := ⟨[], [], [], 0, 0⟩
def WoodS.holds (G : WoodS) : Int → Bool → Option NodeS := holdsS G.now G.pages G.gen
def WoodS.right (G : WoodS) : Bool := rightW G.base G.now G.pages G.root G.gen
def WoodS.tree (G : WoodS) : TreeS := treeS G.now G.pages G.root G.gen
def WoodS.withAlloc (G : WoodS) (b n : List Bool) : WoodS := ⟨b, n, G.pages, G.root, G.gen⟩
def WoodS.withPage (G : WoodS) (i : Nat) (s : ByteArray) : WoodS := ⟨G.base, G.now, G.pages.set i s, G.root, G.gen⟩
def WoodS.withRoot (G : WoodS) (r : Int) : WoodS := ⟨G.base, G.now, G.pages, r, G.gen⟩
def nodeRight (n : NodeS) (r : Bool) : Bool := rightN n.1 n.2.1 n.2.2.1 n.2.2.2 r
def kindN (n : NodeS) : Int := if n.1 = true then 1 else 2
def nodeBytes (n : NodeS) : ByteArray := nodeS n.1 n.2.1 n.2.2.1 n.2.2.2
def nodePage (gen : Int) (n : NodeS) : ByteArray := pageS (kindN n) gen (nodeBytes n)
def writeG (G : WoodS) (block : Int) (n : NodeS) : Int × WoodS := if nodeRight n true = true then (0, G.withPage block.toNat (nodePage G.gen n)) else (81, G)
def layG (G : WoodS) (n : NodeS) : Int × Int × WoodS :=
 if takeE G.base G.now = 0 then (takeK G.base G.now, writeG (G.withAlloc (takeB G.base G.now) (takeNow G.base G.now)) (takeK G.base G.now) n) else (0, takeE G.base G.now, G)
def renewG (G : WoodS) (block : Int) (n : NodeS) : Int × Int × WoodS :=
 if atB G.base block.toNat = false then (block, writeG G block n) else layG (G.withAlloc (giveB G.base G.now [block]) (giveN G.base G.now [block])) n
def cutNA (n : NodeS) : NodeS := (cutL n.1 n.2.1 n.2.2.1 n.2.2.2, cutAK n.1 n.2.1 n.2.2.1 n.2.2.2, cutAV n.1 n.2.1 n.2.2.1 n.2.2.2, cutAC n.1 n.2.1 n.2.2.1 n.2.2.2)
def cutNB (n : NodeS) : NodeS := (cutL n.1 n.2.1 n.2.2.1 n.2.2.2, cutBK n.1 n.2.1 n.2.2.1 n.2.2.2, cutBV n.1 n.2.1 n.2.2.1 n.2.2.2, cutBC n.1 n.2.1 n.2.2.1 n.2.2.2)
def cutNM (n : NodeS) : ByteArray := cutM n.1 n.2.1 n.2.2.1 n.2.2.2
def cutNOk (n : NodeS) : Bool := cutOk n.1 n.2.1 n.2.2.1 n.2.2.2
def replaceG (G : WoodS) (block : Int) (n : NodeS) : Int × (List ByteArray × List Int) × WoodS :=
 if n.2.1.length ≤ 8 then ((renewG G block n).2.1, ([], [(renewG G block n).1]), (renewG G block n).2.2)
 else if cutNOk n = true then
  if (renewG G block (cutNA n)).2.1 = 0 then ((layG (renewG G block (cutNA n)).2.2 (cutNB n)).2.1, ([cutNM n], [(renewG G block (cutNA n)).1, (layG (renewG G block (cutNA n)).2.2 (cutNB n)).1]), (layG (renewG G block (cutNA n)).2.2 (cutNB n)).2.2)
  else ((renewG G block (cutNA n)).2.1, ([], []), (renewG G block (cutNA n)).2.2)
 else (81, ([], []), G)
def plantG (G : WoodS) (n : NodeS) : Int × WoodS := ((layG G n).2.1, (layG G n).2.2.withRoot (layG G n).1)
structure Ok (G : WoodS) : Prop where
 alloc : rightA G.base G.now = true
 len : G.pages.length = G.now.length
 lo : 1 ≤ G.gen
 hi : G.gen ≤ 1099511627776
 room : ∀ s ∈ G.pages, s.size ≤ 4096
def WoodS.has (G : WoodS) (b : Int) : Prop := 0 ≤ b ∧ atB G.now b.toNat = true
def WoodS.counts (G : WoodS) (b : Int) : Prop := 0 ≤ b ∧ atB G.base b.toNat = true
def WoodS.free (G : WoodS) : Nat := howN (freeB G.base G.now) G.now.length
def WoodS.newPage (G : WoodS) (b : Int) : Prop := ∃ s, G.pages[b.toNat]? = some s ∧ readE s = 0 ∧ readG s = G.gen
theorem right_ok {G : WoodS} : G.right = true ↔ Ok G ∧ (G.root = 0 ∨ (10 ≤ G.root ∧ G.root < G.now.length)) := by
 unfold WoodS.right rightW
 simp only [Bool.and_eq_true, Bool.or_eq_true, decide_eq_true_eq, List.all_eq_true]
 constructor
 ·
  rintro ⟨⟨⟨⟨⟨h1, h2⟩, h3⟩, h4⟩, h5⟩, h6⟩
  exact ⟨⟨h1, h2, h3, h4, h5⟩, h6⟩
 ·
  rintro ⟨⟨h1, h2, h3, h4, h5⟩, h6⟩
  exact ⟨⟨⟨⟨⟨h1, h2⟩, h3⟩, h4⟩, h5⟩, h6⟩
theorem atB_lt {l : List Bool} {i : Nat} (h : atB l i = true) : i < l.length := by
 refine Nat.lt_of_not_le fun hn => ?_
 rw [atB_past hn] at h
 cases h
theorem has_lt {G : WoodS} {b : Int} (h : G.has b) : b < G.now.length := by
 have := atB_lt h.2
 have := h.1
 omega
theorem getD_at (l : List Bool) (i : Nat) : l.getD i false = atB l i := by unfold atB; rw [List.getD_eq_getElem?_getD]
theorem holds_has {G : WoodS} {b : Int} {r : Bool} {n : NodeS} (h : G.holds b r = some n) : G.has b ∧ 10 ≤ b ∧ b < G.now.length := by
 unfold WoodS.holds holdsS at h
 split at h
 ·
  rename_i hh
  rw [getD_at] at hh
  exact ⟨⟨by omega, hh.2.2.2⟩, hh.1, hh.2.1⟩
 ·
  cases h
theorem holds_nodeRight {G : WoodS} {b : Int} {r : Bool} {n : NodeS} (h : G.holds b r = some n) : nodeRight n r = true := holds_right h
theorem holds_same {G G' : WoodS} {b : Int} (hg : G'.gen = G.gen) (hl : G'.now.length = G.now.length) (hp : G'.pages.length = G.pages.length) (h : G.has b) (h' : G'.has b) (hs : G'.pages[b.toNat]? = G.pages[b.toNat]?) (r : Bool) : G'.holds b r = G.holds b r := by
 unfold WoodS.holds holdsS
 rw [getD_at, getD_at, h.2, h'.2, hl, hp, hg, List.getD_eq_getElem?_getD, List.getD_eq_getElem?_getD, hs]
structure Turn (G G' : WoodS) (O N : Int → Prop) (c : Nat) : Prop where
 base : G'.base = G.base
 gen : G'.gen = G.gen
 root : G'.root = G.root
 len : G'.now.length = G.now.length
 ok : Ok G'
 now : ∀ b, G'.has b ↔ (G.has b ∧ ¬ O b) ∨ N b
 page : ∀ b, G.has b → ¬ O b → G'.pages[b.toNat]? = G.pages[b.toNat]?
 based : ∀ b, G.counts b → G'.pages[b.toNat]? = G.pages[b.toNat]?
 fresh : ∀ b, N b → O b ∨ (¬ G.has b ∧ ¬ G.counts b)
 gens : ∀ b, N b → (O b ∧ G'.pages[b.toNat]? = G.pages[b.toNat]?) ∨ G'.newPage b
 free : G.free ≤ G'.free + c
theorem Turn.plen {G G' : WoodS} {O N : Int → Prop} {c : Nat} (t : Turn G G' O N c) (h : Ok G) : G'.pages.length = G.pages.length := by rw [t.ok.len, h.len, t.len]
theorem Turn.holds {G G' : WoodS} {O N : Int → Prop} {c : Nat} (t : Turn G G' O N c) (hk : Ok G) {b : Int} (h : G.has b) (ho : ¬ O b) (r : Bool) : G'.holds b r = G.holds b r :=
 holds_same t.gen t.len (t.plen hk) h ((t.now b).2 (.inl ⟨h, ho⟩)) (t.page b h ho) r
theorem newPage_same {G G' : WoodS} {b : Int} (hg : G'.gen = G.gen) (hs : G'.pages[b.toNat]? = G.pages[b.toNat]?) (h : G.newPage b) : G'.newPage b := by
 obtain ⟨s, h1, h2, h3⟩ := h
 exact ⟨s, by rw [hs, h1], h2, by rw [h3, hg]⟩
theorem counts_same {G G' : WoodS} (h : G'.base = G.base) (b : Int) : G'.counts b ↔ G.counts b := by unfold WoodS.counts; rw [h]
theorem Turn.trans {G G1 G2 : WoodS} {O1 N1 O2 N2 : Int → Prop} {c1 c2 : Nat} (s : Turn G G1 O1 N1 c1) (t : Turn G1 G2 O2 N2 c2) (ho : ∀ b, O2 b → G1.has b) : Turn G G2 (fun b => O1 b ∨ O2 b) (fun b => (N1 b ∧ ¬ O2 b) ∨ N2 b) (c1 + c2) := by
 refine ⟨t.base.trans s.base, t.gen.trans s.gen, t.root.trans s.root, t.len.trans s.len, t.ok, fun b => ?_, fun b hb hn => ?_, fun b hb => ?_, fun b hb => ?_, fun b hb => ?_, ?_⟩
 ·
  rw [t.now, s.now]
  constructor
  ·
   rintro (⟨⟨h1, h2⟩ | h1, h3⟩ | h1)
   ·
    exact .inl ⟨h1, fun h => h.elim h2 h3⟩
   ·
    exact .inr (.inl ⟨h1, h3⟩)
   ·
    exact .inr (.inr h1)
  ·
   rintro (⟨h1, h2⟩ | ⟨h1, h2⟩ | h1)
   ·
    exact .inl ⟨.inl ⟨h1, fun h => h2 (.inl h)⟩, fun h => h2 (.inr h)⟩
   ·
    exact .inl ⟨.inr h1, h2⟩
   ·
    exact .inr h1
 ·
  have h1 := (s.now b).2 (.inl ⟨hb, fun h => hn (.inl h)⟩)
  rw [t.page b h1 fun h => hn (.inr h), s.page b hb fun h => hn (.inl h)]
 ·
  rw [t.based b ((counts_same s.base b).2 hb), s.based b hb]
 ·
  rcases hb with ⟨h1, h2⟩ | h1
  ·
   exact (s.fresh b h1).imp .inl id
  ·
   rcases t.fresh b h1 with h2 | ⟨h2, h3⟩
   ·
    exact .inl (.inr h2)
   ·
    rw [s.now] at h2
    by_cases h4 : O1 b
    ·
     exact .inl (.inl h4)
    ·
     exact .inr ⟨fun h5 => h2 (.inl ⟨h5, h4⟩), fun h5 => h3 ((counts_same s.base b).2 h5)⟩
 ·
  rcases hb with ⟨h1, h2⟩ | h1
  ·
   have h3 := t.page b ((s.now b).2 (.inr h1)) h2
   rcases s.gens b h1 with ⟨h4, h5⟩ | h4
   ·
    exact .inl ⟨.inl h4, by rw [h3, h5]⟩
   ·
    exact .inr (newPage_same t.gen h3 h4)
  ·
   rcases t.gens b h1 with ⟨h2, h3⟩ | h2
   ·
    rcases (s.now b).1 (ho b h2) with ⟨h4, h5⟩ | h4
    ·
     exact .inl ⟨.inr h2, by rw [h3, s.page b h4 h5]⟩
    ·
     rcases s.gens b h4 with ⟨h5, h6⟩ | h5
     ·
      exact .inl ⟨.inl h5, by rw [h3, h6]⟩
     ·
      exact .inr (newPage_same t.gen h3 h5)
   ·
    exact .inr h2
 ·
  have := s.free
  have := t.free
  omega
theorem Turn.of {G G' : WoodS} {O N O' N' : Int → Prop} {c c' : Nat} (t : Turn G G' O N c) (ho : ∀ b, O b ↔ O' b) (hn : ∀ b, N b ↔ N' b) (hc : c ≤ c') : Turn G G' O' N' c' := by
 have e1 : O = O' := funext fun b => propext (ho b)
 have e2 : N = N' := funext fun b => propext (hn b)
 subst e1 e2
 exact ⟨t.base, t.gen, t.root, t.len, t.ok, t.now, t.page, t.based, t.fresh, t.gens, by have := t.free; omega⟩
theorem Turn.widen {G G' : WoodS} {O N : Int → Prop} {c : Nat} (t : Turn G G' O N c) (X : Int → Prop) (hx : ∀ b, X b → G.has b ∧ ¬ O b) : Turn G G' (fun b => O b ∨ X b) (fun b => N b ∨ X b) c := by
 refine ⟨t.base, t.gen, t.root, t.len, t.ok, fun b => ?_, fun b hb hn => t.page b hb fun h => hn (.inl h), t.based, fun b hb => ?_, fun b hb => ?_, t.free⟩
 ·
  rw [t.now]
  constructor
  ·
   rintro (⟨h1, h2⟩ | h1)
   ·
    by_cases h3 : X b
    ·
     exact .inr (.inr h3)
    ·
     exact .inl ⟨h1, fun h => h.elim h2 h3⟩
   ·
    exact .inr (.inl h1)
  ·
   rintro (⟨h1, h2⟩ | h1 | h1)
   ·
    exact .inl ⟨h1, fun h => h2 (.inl h)⟩
   ·
    exact .inr h1
   ·
    exact .inl (hx b h1)
 ·
  rcases hb with hb | hb
  ·
   exact (t.fresh b hb).imp .inl id
  ·
   exact .inl (.inr hb)
 ·
  rcases hb with hb | hb
  ·
   exact (t.gens b hb).imp (fun h => ⟨.inl h.1, h.2⟩) id
  ·
   exact .inl ⟨.inr hb, t.page b (hx b hb).1 (hx b hb).2⟩
theorem nodePage_size (gen : Int) (n : NodeS) : (nodePage gen n).size ≤ 4096 := Nat.le_trans (pageS_max _ _ _) (by decide)
theorem nodePage_read {gen : Int} {n : NodeS} (hg : 1 ≤ gen) (hg' : gen ≤ 1099511627776) (h : nodeRight n true = true) : readE (nodePage gen n) = 0 ∧ readK (nodePage gen n) = kindN n ∧ readG (nodePage gen n) = gen ∧ readB (nodePage gen n) = nodeBytes n := by
 have hk : 1 ≤ kindN n ∧ kindN n ≤ 5 := by unfold kindN; split <;> omega
 have hr : rightP (kindN n) gen (nodeBytes n) = true := (rightP_iff _ _ _).2 ⟨hk.1, hk.2, by omega, hg', node_size h⟩
 have := page_back hr 0 (by have := pageS_max (kindN n) gen (nodeBytes n); omega)
 have e : zeros 0 = ByteArray.empty := rfl
 rw [e, ByteArray.append_empty] at this
 exact this
theorem nodePage_holds {gen : Int} {n : NodeS} (hg : 1 ≤ gen) (hg' : gen ≤ 1099511627776) {r : Bool} (h : nodeRight n r = true) : pageN (nodePage gen n) gen r = some n := by
 have ht : nodeRight n true = true := rightN_iff.2 ⟨(rightN_iff.1 h).1, (rightN_iff.1 h).2.1, .inl rfl⟩
 obtain ⟨h1, h2, h3, h4⟩ := nodePage_read hg hg' ht
 have hb : nodeR (kindN n) (nodeBytes n) = .inr n := node_back ht
 have e1 : gE (kindN n) (nodeBytes n) = 0 := by unfold gE; rw [hb]
 have e2 : gN (kindN n) (nodeBytes n) = n := by unfold gN; rw [hb]
 unfold pageN
 rw [h1, h2, h3, h4, e1, e2, if_pos ⟨rfl, Int.le_refl _, rfl, h⟩]
theorem ok_page {G : WoodS} (hk : Ok G) (i : Nat) (n : NodeS) : Ok (G.withPage i (nodePage G.gen n)) := by
 refine ⟨hk.alloc, by show (G.pages.set i _).length = _; rw [List.length_set]; exact hk.len, hk.lo, hk.hi, fun s hs => ?_⟩
 rcases List.mem_or_eq_of_mem_set hs with h | h
 ·
  exact hk.room s h
 ·
  rw [h]; exact nodePage_size _ _
theorem write_is {G : WoodS} {block : Int} {n : NodeS} (hk : Ok G) (hb : G.has block) (h10 : 10 ≤ block) (hc : ¬ G.counts block) (hn : nodeRight n true = true) :
  ∃ G', writeG G block n = (0, G') ∧ Turn G G' (fun b => b = block) (fun b => b = block) 0 ∧ G'.newPage block ∧ ∀ r, nodeRight n r = true → G'.holds block r = some n := by
 have hlt := has_lt hb
 have hp : block.toNat < G.pages.length := by rw [hk.len]; omega
 have hat : (G.withPage block.toNat (nodePage G.gen n)).pages[block.toNat]? = some (nodePage G.gen n) := by
  show (G.pages.set _ _)[_]? = _
  rw [List.getElem?_set_self hp]
 have hnew : (G.withPage block.toNat (nodePage G.gen n)).newPage block := ⟨_, hat, (nodePage_read hk.lo hk.hi hn).1, (nodePage_read hk.lo hk.hi hn).2.2.1⟩
 have other : ∀ b : Int, 0 ≤ b → b ≠ block → (G.withPage block.toNat (nodePage G.gen n)).pages[b.toNat]? = G.pages[b.toNat]? := by
  intro b h0 hne
  show (G.pages.set _ _)[_]? = _
  rw [List.getElem?_set_ne]
  omega
 refine ⟨G.withPage block.toNat (nodePage G.gen n), by unfold writeG; rw [if_pos hn], ⟨rfl, rfl, rfl, rfl, ok_page hk _ _, fun b => ?_, fun b h1 h2 => other b h1.1 h2, fun b h1 => other b h1.1 (fun e => hc (e ▸ h1)), fun b h1 => .inl h1, fun b h1 => .inr (by rw [h1]; exact hnew), Nat.le_refl _⟩, hnew, fun r hr => ?_⟩
 ·
  show G.has b ↔ _
  constructor
  ·
   intro h
   by_cases e : b = block
   ·
    exact .inr e
   ·
    exact .inl ⟨h, e⟩
  ·
   rintro (h | rfl)
   ·
    exact h.1
   ·
    exact hb
 ·
  have h1 : (G.withPage block.toNat (nodePage G.gen n)).pages.length = G.pages.length := List.length_set ..
  unfold WoodS.holds holdsS
  have h2 : G.now.getD block.toNat false = true := by rw [getD_at]; exact hb.2
  rw [if_pos ⟨h10, hlt, by rw [h1, hk.len]; exact hlt, h2⟩, List.getD_eq_getElem?_getD, hat]
  exact nodePage_holds hk.lo hk.hi hr
theorem write_bad {G : WoodS} {block : Int} {n : NodeS} (hn : nodeRight n true = false) : writeG G block n = (81, G) := by unfold writeG; rw [hn]; rfl
theorem lay_is {G : WoodS} {n : NodeS} (hk : Ok G) (hn : nodeRight n true = true) :
  ((layG G n).2.1 = 60 ∧ G.free = 0) ∨ ∃ k G', layG G n = (k, 0, G') ∧ 10 ≤ k ∧ k < G.now.length ∧ ¬ G.has k ∧ ¬ G.counts k ∧ Turn G G' (fun _ => False) (fun b => b = k) 1 ∧ ∀ r, nodeRight n r = true → G'.holds k r = some n := by
 have hl := ((rightA_iff _ _).1 hk.alloc).1
 rcases takeP_spec hl with ⟨e, hno⟩ | ⟨p, e, hp, hf, -⟩
 ·
  left
  have h60 : takeE G.base G.now = 60 := by unfold takeE; rw [if_pos hk.alloc, if_pos e]
  refine ⟨by unfold layG; rw [h60]; rfl, howN_zero.2 hno⟩
 ·
  right
  have h0 : takeE G.base G.now = 0 := by unfold takeE; rw [if_pos hk.alloc, if_neg (by omega)]
  have hK : takeK G.base G.now = p := by unfold takeK; rw [if_pos h0, e]
  have hB : takeB G.base G.now = G.base := by unfold takeB; rw [if_pos h0]
  have hN : takeNow G.base G.now = G.now.set p true := by unfold takeNow; rw [if_pos h0, e, Int.toNat_natCast]
  have h10 := free_ten hk.alloc hf
  obtain ⟨hf1, hf2, hf3⟩ := (freeB_iff _ _ _).1 hf
  obtain ⟨g1, g2, g3⟩ := free_taken hf
  obtain ⟨G1, hG1⟩ : ∃ G1, G1 = G.withAlloc G.base (G.now.set p true) := ⟨_, rfl⟩
  have hk1 : Ok G1 := by rw [hG1]; exact ⟨right_set hk.alloc h10 true, by show G.pages.length = (G.now.set p true).length; rw [List.length_set]; exact hk.len, hk.lo, hk.hi, hk.room⟩
  have has1 : ∀ b, G1.has b ↔ G.has b ∨ b = (p : Int) := by
   intro b
   rw [hG1]
   show (0 ≤ b ∧ atB (G.now.set p true) b.toNat = true) ↔ (0 ≤ b ∧ atB G.now b.toNat = true) ∨ b = (p : Int)
   rw [atB_setB]
   constructor
   ·
    rintro ⟨h1, h2⟩
    split at h2
    ·
     rename_i hh; right; omega
    ·
     exact .inl ⟨h1, h2⟩
   ·
    rintro (⟨h1, h2⟩ | rfl)
    ·
     refine ⟨h1, ?_⟩
     split
     ·
      rfl
     ·
      exact h2
    ·
     exact ⟨by omega, by rw [if_pos ⟨by omega, by omega⟩]⟩
  have hnh : ¬ G.has (p : Int) := fun h => by have := h.2; rw [Int.toNat_natCast, hf2] at this; cases this
  have hnc : ¬ G.counts (p : Int) := fun h => by have := h.2; rw [Int.toNat_natCast, hf3] at this; cases this
  obtain ⟨G', hw, t, hnew, hh⟩ := write_is hk1 ((has1 p).2 (.inr rfl)) (by omega) (fun h => hnc ((counts_same (by rw [hG1]; rfl) _).1 h)) hn
  have b1 : G1.base = G.base := by rw [hG1]; rfl
  have p1 : G1.pages = G.pages := by rw [hG1]; rfl
  have l1 : G1.now.length = G.now.length := by rw [hG1]; exact List.length_set ..
  refine ⟨p, G', by unfold layG; rw [if_pos h0, hK, hB, hN, ← hG1, hw], by omega, by omega, hnh, hnc, ⟨by rw [t.base, b1], by rw [t.gen, hG1]; rfl, by rw [t.root, hG1]; rfl, by rw [t.len, l1], t.ok, fun b => ?_, fun b h1 _ => ?_, fun b h1 => ?_, fun b h1 => ?_, fun b h1 => ?_, ?_⟩, hh⟩
  ·
   rw [t.now, has1]
   constructor
   ·
    rintro (⟨h1 | h1, h2⟩ | h1)
    ·
     exact .inl ⟨h1, id⟩
    ·
     exact .inr h1
    ·
     exact .inr h1
   ·
    rintro (⟨h1, -⟩ | h1)
    ·
     exact .inl ⟨.inl h1, fun e => hnh (e ▸ h1)⟩
    ·
     exact .inr h1
  ·
   rw [t.page b ((has1 b).2 (.inl h1)) (fun e => hnh (e ▸ h1)), p1]
  ·
   rw [t.based b ((counts_same b1 b).2 h1), p1]
  ·
   subst h1; exact .inr ⟨hnh, hnc⟩
  ·
   subst h1; exact .inr hnew
  ·
   have h1 := t.free
   have h2 : G1.free = howN (freeB G.base (G.now.set p true)) G.now.length := by
    unfold WoodS.free
    rw [l1, hG1]
    rfl
   have h3 : G.free = howN (freeB G.base G.now) G.now.length := rfl
   omega
theorem lay_bad {G : WoodS} {n : NodeS} (hk : Ok G) (hn : nodeRight n true = false) : (layG G n).2.1 = 60 ∨ (layG G n).2.1 = 81 := by
 unfold layG
 split
 ·
  right; rw [write_bad hn]
 ·
  left
  rename_i h
  unfold takeE at h ⊢
  rw [if_pos hk.alloc] at h ⊢
  split
  ·
   rfl
  ·
   rename_i h2; rw [if_neg h2] at h; exact absurd rfl h
theorem renew_is {G : WoodS} {block : Int} {n : NodeS} (hk : Ok G) (hb : G.has block) (h10 : 10 ≤ block) (hn : nodeRight n true = true) :
  ((renewG G block n).2.1 = 60 ∧ G.free = 0) ∨ ∃ k G', renewG G block n = (k, 0, G') ∧ 10 ≤ k ∧ k < G.now.length ∧ Turn G G' (fun b => b = block) (fun b => b = k) 1 ∧ (k = block ∨ ¬ G.has k) ∧ ∀ r, nodeRight n r = true → G'.holds k r = some n := by
 have hlt := has_lt hb
 by_cases hc : atB G.base block.toNat = false
 ·
  right
  have hnc : ¬ G.counts block := fun h => by rw [h.2] at hc; cases hc
  obtain ⟨G', hw, t, _, hh⟩ := write_is hk hb h10 hnc hn
  refine ⟨block, G', by unfold renewG; rw [if_pos hc, hw], h10, hlt, t.of (fun _ => Iff.rfl) (fun _ => Iff.rfl) (by omega), .inl rfl, hh⟩
 ·
  have hct : atB G.base block.toNat = true := by simpa using hc
  have hcc : G.counts block := ⟨hb.1, hct⟩
  have hgR : giveR G.now [block] = some (G.now.set block.toNat false) := by
   rw [giveR, if_pos ⟨h10, hlt, hb.2⟩]; rfl
  have hgE : giveE G.base G.now [block] = 0 := by unfold giveE; rw [if_pos hk.alloc, hgR]; rfl
  have hgB : giveB G.base G.now [block] = G.base := by unfold giveB; rw [if_pos hgE]
  have hgN : giveN G.base G.now [block] = G.now.set block.toNat false := by unfold giveN; rw [if_pos hgE, hgR]; rfl
  obtain ⟨G1, hG1⟩ : ∃ G1, G1 = G.withAlloc G.base (G.now.set block.toNat false) := ⟨_, rfl⟩
  have e0 : renewG G block n = layG G1 n := by unfold renewG; rw [if_neg hc, hgB, hgN, hG1]
  have hk1 : Ok G1 := by rw [hG1]; exact ⟨right_set hk.alloc (by omega) false, by show G.pages.length = (G.now.set _ false).length; rw [List.length_set]; exact hk.len, hk.lo, hk.hi, hk.room⟩
  have has1 : ∀ b, G1.has b ↔ G.has b ∧ b ≠ block := by
   intro b
   rw [hG1]
   show (0 ≤ b ∧ atB (G.now.set block.toNat false) b.toNat = true) ↔ (0 ≤ b ∧ atB G.now b.toNat = true) ∧ b ≠ block
   rw [atB_setB]
   constructor
   ·
    rintro ⟨h1, h2⟩
    split at h2
    ·
     cases h2
    ·
     rename_i hh
     refine ⟨⟨h1, h2⟩, fun e => hh ⟨by rw [e], ?_⟩⟩
     exact atB_lt h2
   ·
    rintro ⟨⟨h1, h2⟩, h3⟩
    refine ⟨h1, ?_⟩
    rw [if_neg (fun hh => h3 (by omega))]
    exact h2
  have b1 : G1.base = G.base := by rw [hG1]; rfl
  have p1 : G1.pages = G.pages := by rw [hG1]; rfl
  have l1 : G1.now.length = G.now.length := by rw [hG1]; exact List.length_set ..
  have f1 : G1.free = G.free := by
   unfold WoodS.free
   rw [l1]
   refine howN_congr fun i hi => ?_
   unfold freeB
   rw [l1, b1]
   by_cases e : i = block.toNat
   ·
    subst e; rw [hct]; simp
   ·
    have : atB G1.now i = atB G.now i := by
     rw [hG1]
     show atB (G.now.set block.toNat false) i = _
     rw [atB_setB, if_neg (fun hh => e hh.1.symm)]
    rw [this]
  have t1 : Turn G G1 (fun b => b = block) (fun _ => False) 0 := by
   refine ⟨b1, by rw [hG1]; rfl, by rw [hG1]; rfl, l1, hk1, fun b => ?_, fun b _ _ => by rw [p1], fun b _ => by rw [p1], fun b h => h.elim, fun b h => h.elim, by rw [f1]; exact Nat.le_refl _⟩
   rw [has1]
   exact ⟨.inl, fun h => h.resolve_right id⟩
  rw [e0]
  rcases lay_is hk1 hn with ⟨h1, h2⟩ | ⟨k, G', h1, h2, h3, h4, h5, t, hh⟩
  ·
   exact .inl ⟨h1, by rw [← f1]; exact h2⟩
  ·
   refine .inr ⟨k, G', h1, h2, by rw [← l1]; exact h3, (t1.trans t fun b h => h.elim).of (fun b => ⟨fun h => h.resolve_right id, .inl⟩) (fun b => ⟨fun h => h.resolve_left (fun x => x.1), .inr⟩) (by omega), ?_, hh⟩
   by_cases e : k = block
   ·
    exact .inl e
   ·
    exact .inr fun h => h4 ((has1 k).2 ⟨h, e⟩)
theorem renew_bad {G : WoodS} {block : Int} {n : NodeS} (hk : Ok G) (hb : G.has block) (h10 : 10 ≤ block) (hn : nodeRight n true = false) : (renewG G block n).2.1 = 60 ∨ (renewG G block n).2.1 = 81 := by
 unfold renewG
 split
 ·
  right; rw [write_bad hn]
 ·
  have hlt := has_lt hb
  have hgR : giveR G.now [block] = some (G.now.set block.toNat false) := by
   rw [giveR, if_pos ⟨h10, hlt, hb.2⟩]; rfl
  have hgE : giveE G.base G.now [block] = 0 := by unfold giveE; rw [if_pos hk.alloc, hgR]; rfl
  refine lay_bad ?_ hn
  have hgB : giveB G.base G.now [block] = G.base := by unfold giveB; rw [if_pos hgE]
  have hgN : giveN G.base G.now [block] = G.now.set block.toNat false := by unfold giveN; rw [if_pos hgE, hgR]; rfl
  rw [hgB, hgN]
  exact ⟨right_set hk.alloc (by omega) false, by show G.pages.length = (G.now.set _ false).length; rw [List.length_set]; exact hk.len, hk.lo, hk.hi, hk.room⟩
end Go.Proofs.YtaecfbfcjaailaaGreat
namespace Go.Proofs.YtaecfbfcjaailaaGreat
open Go.RowKit Plain
set_option linter.unusedVariables false
namespace Plain
def withPairN (ks vs : List ByteArray) (key val : ByteArray) : NodeS :=
 (true, ks.take (findN key ks) ++ (key :: ks.drop (findN key ks + (if isN ks key = true then 1 else 0))), vs.take (findN key ks) ++ (val :: vs.drop (findN key ks + (if isN ks key = true then 1 else 0))), [])
theorem chain_low {P : Sub} (hP : ∀ b l u Q B, P b l u Q B → ∀ q ∈ Q, withinS q.1 l u = true) {low high : ByteArray} {ks : List ByteArray} {cs : List Int} {Q : List (ByteArray × ByteArray)} {B : List Int} (h : Chain P low ks cs high Q B) : ∀ q ∈ Q, ltB q.1 low = false ∨ ∃ (j : Nat) (m : ByteArray), ks[j]? = some m ∧ ltB q.1 m = false := by
 induction h with
 | one h => exact fun q hq => .inl (within_low (hP _ _ _ _ _ h q hq))
 | @cons low m high b ks cs Q Q' B B' h t ih =>
  intro q hq
  rcases List.mem_append.1 hq with hq | hq
  ·
   exact .inl (within_low (hP _ _ _ _ _ h q hq))
  ·
   rcases ih q hq with h1 | ⟨j, y, h1, h2⟩
   ·
    exact .inr ⟨0, m, rfl, h1⟩
   ·
    exact .inr ⟨j + 1, y, by simpa using h1, h2⟩
theorem Chain.mid {P : Sub} (hP : ∀ b l u Q B, P b l u Q B → ∀ q ∈ Q, withinS q.1 l u = true) {low high : ByteArray} {ks : List ByteArray} {cs : List Int} {Q : List (ByteArray × ByteArray)} {B : List Int} (h : Chain P low ks cs high Q B) : ∀ (i : Nat), i ≤ ks.length → ∃ b Q1 Qi Q2 B1 Bi B2, cs[i]? = some b ∧ Q = Q1 ++ (Qi ++ Q2) ∧ B = B1 ++ (Bi ++ B2) ∧ P b (kidFrom low ks i) (kidTo high ks i) Qi Bi ∧
  (∀ q ∈ Q1, ∃ (j : Nat) (m : ByteArray), j < i ∧ ks[j]? = some m ∧ (m.size = 0 ∨ ltB q.1 m = true)) ∧ (∀ q ∈ Q2, ∃ (j : Nat) (m : ByteArray), i ≤ j ∧ ks[j]? = some m ∧ ltB q.1 m = false) ∧
  ∀ (P' : Sub) (rk : List ByteArray) (rc : List Int) (Q' : List (ByteArray × ByteArray)) (B' : List Int), (∀ b l u Q' B', (∀ x ∈ B', x ∈ B1 ∨ x ∈ B2) → P b l u Q' B' → P' b l u Q' B') → Chain P' (kidFrom low ks i) rk rc (kidTo high ks i) Q' B' →
   Chain P' low (ks.take i ++ (rk ++ ks.drop i)) (cs.take i ++ (rc ++ cs.drop (i + 1))) high (Q1 ++ (Q' ++ Q2)) (B1 ++ (B' ++ B2)) := by
 induction h with
 | @one low high b Q B h =>
  intro i hi
  obtain rfl : i = 0 := by simpa using hi
  exact ⟨b, [], Q, [], [], B, [], rfl, by simp, by simp, h, fun q hq => (by cases hq), fun q hq => (by cases hq), fun P' rk rc Q' B' hp hc => by have hc' : Chain P' low rk rc high Q' B' := hc; simpa using hc'⟩
 | @cons low m high b ks cs Q Q' B B' h t ih =>
  intro i hi
  cases i with
  | zero =>
   refine ⟨b, [], Q, Q', [], B, B', rfl, by simp, by simp, h, fun q hq => (by cases hq), fun q hq => ?_, fun P' rk rc Q'' B'' hp hc => ?_⟩
   ·
    rcases chain_low hP t q hq with h1 | ⟨j, y, h1, h2⟩
    ·
     exact ⟨0, m, Nat.le_refl _, rfl, h1⟩
    ·
     exact ⟨j + 1, y, Nat.zero_le _, by simpa using h1, h2⟩
   ·
    have ht : Chain P' m ks cs high Q' B' := t.mono fun b l u Q3 B3 hb => hp b l u Q3 B3 fun x hx => .inr (hb x hx)
    have hc' : Chain P' low rk rc m Q'' B'' := hc
    have join : ∀ {l u : ByteArray} {rk : List ByteArray} {rc : List Int} {Q1 : List (ByteArray × ByteArray)} {B1 : List Int}, Chain P' l rk rc u Q1 B1 → u = m → Chain P' l (rk ++ m :: ks) (rc ++ cs) high (Q1 ++ Q') (B1 ++ B') := by
     intro l u rk rc Q1 B1 hx
     induction hx with
     | one hx => rintro rfl; exact .cons hx ht
     | cons hx tx ihx => intro e; rw [List.append_assoc, List.append_assoc]; exact .cons hx (ihx e)
    simpa using join hc' rfl
  | succ i =>
   obtain ⟨b0, Q1, Qi, Q2, B1, Bi, B2, hb, hQ, hB, hPi, h1, h2, hr⟩ := ih i (by simpa using hi)
   have kf : kidFrom low (m :: ks) (i + 1) = kidFrom m ks i := by
    unfold kidFrom
    cases i with
    | zero => rfl
    | succ i => rfl
   have kt : kidTo high (m :: ks) (i + 1) = kidTo high ks i := by
    unfold kidTo
    simp
   refine ⟨b0, Q ++ Q1, Qi, Q2, B ++ B1, Bi, B2, by simpa using hb, by rw [hQ, List.append_assoc], by rw [hB, List.append_assoc], by rw [kf, kt]; exact hPi, fun q hq => ?_, fun q hq => ?_, fun P' rk rc Q'' B'' hp hc => ?_⟩
   ·
    rcases List.mem_append.1 hq with hq | hq
    ·
     exact ⟨0, m, by omega, rfl, within_high (hP _ _ _ _ _ h q hq)⟩
    ·
     obtain ⟨j, y, g1, g2, g3⟩ := h1 q hq
     exact ⟨j + 1, y, by omega, by simpa using g2, g3⟩
   ·
    obtain ⟨j, y, g1, g2, g3⟩ := h2 q hq
    exact ⟨j + 1, y, by omega, by simpa using g2, g3⟩
   ·
    rw [kf, kt] at hc
    have := hr P' rk rc Q'' B'' (fun b l u Q3 B3 hb => hp b l u Q3 B3 fun x hx => (hb x hx).imp (fun y => by simp [y]) id) hc
    rw [List.append_assoc, List.append_assoc, List.take_succ_cons, List.drop_succ_cons, List.take_succ_cons, List.drop_succ_cons, List.cons_append, List.cons_append]
    exact .cons (hp _ _ _ _ _ (fun x hx => by simp [hx]) h) this
end Plain
end Go.Proofs.YtaecfbfcjaailaaGreat
namespace Go.Proofs.YtaecfbfcjaailaaGreat
open Go.RowKit Plain
set_option linter.unusedVariables false
theorem cutNOk_iff {n : NodeS} : cutNOk n = true ↔ standsN n.1 n.2.1 n.2.2.1 n.2.2.2 = true ∧ n.2.1.length = 9 := by
 unfold cutNOk cutOk
 simp only [Bool.and_eq_true, decide_eq_true_eq]
theorem cut_parts {n : NodeS} (h : cutNOk n = true) : cutNA n = (n.1, n.2.1.take 4, n.2.2.1.take 4, n.2.2.2.take 5) ∧ cutNB n = (n.1, n.2.1.drop (cutFrom n.1), n.2.2.1.drop 4, n.2.2.2.drop 5) ∧ n.2.1[4]? = some (cutNM n) := by
 have h' : cutOk n.1 n.2.1 n.2.2.1 n.2.2.2 = true := h
 have h9 := (cutNOk_iff.1 h).2
 refine ⟨?_, ?_, ?_⟩
 ·
  unfold cutNA cutL cutAK cutAV cutAC
  rw [h']; simp
 ·
  unfold cutNB cutL cutBK cutBV cutBC
  rw [h']; simp
 ·
  unfold cutNM cutM
  rw [if_pos h', List.getD_eq_getElem?_getD, List.getElem?_eq_getElem (by omega)]
  rfl
abbrev StepS := Int × NodeS × Nat
def withRowN (n : NodeS) (i : Nat) (row : List ByteArray × List Int) : NodeS := (false, n.2.1.take i ++ (row.1 ++ n.2.1.drop i), [], n.2.2.2.take i ++ (row.2 ++ n.2.2.2.drop (i + 1)))
def downG (H : Int → Bool → Option NodeS) (key : ByteArray) : Nat → Int → Bool → Option (List StepS)
 | 0, _, _ => none
 | k + 1, block, r => match H block r with
  | none => none
  | some n => if n.1 = true then some [(block, n, 0)] else (downG H key k (n.2.2.2.getD (kidN n.2.1 key) 0) false).map ((block, n, kidN n.2.1 key) :: ·)
def lastN (way : List StepS) : NodeS := ((way.getLast?).map (·.2.1)).getD (true, [], [], [])
theorem downG_at {H : Int → Bool → Option NodeS} {key : ByteArray} {k : Nat} {block : Int} {r : Bool} {n : NodeS} (h : H block r = some n) : downG H key (k + 1) block r = if n.1 = true then some [(block, n, 0)] else (downG H key k (n.2.2.2.getD (kidN n.2.1 key) 0) false).map ((block, n, kidN n.2.1 key) :: ·) := by
 rw [downG, h]
def nextN (rest : List StepS) (row : List ByteArray × List Int) : NodeS := match rest with
 | [] => (false, row.1, [], row.2)
 | p :: _ => withRowN p.2.1 p.2.2 row
def upG (N : Nat) : List StepS → WoodS → NodeS → Int × WoodS
 | [], G, n => if n.2.1.length = 0 then (0, G.withRoot (n.2.2.2.getD 0 0)) else if N = 8 then (81, G) else plantG G n
 | s :: rest, G, n => if (replaceG G s.1 n).1 = 0 ∧ (replaceG G s.1 n).2.1.2 ≠ [s.1] then upG N rest (replaceG G s.1 n).2.2 (nextN rest (replaceG G s.1 n).2.1) else ((replaceG G s.1 n).1, (replaceG G s.1 n).2.2)
def isPairB (key val : ByteArray) : Bool := decide (1 ≤ key.size) && decide (key.size ≤ 32) && decide (val.size ≤ 200)
theorem isPairB_iff {key val : ByteArray} : isPairB key val = true ↔ keyIn key ∧ val.size ≤ 200 := by
 unfold isPairB keyIn
 simp only [Bool.and_eq_true, decide_eq_true_eq]
def putG (G : WoodS) (key val : ByteArray) : Int × WoodS :=
 if isPairB key val = true then
  if G.root = 0 then plantG G (withPairN [] [] key val)
  else if (findS G.holds key 8 G.root ⟨#[]⟩ ⟨#[]⟩).2 = 81 then (81, G)
  else match downG G.holds key 8 G.root true with
   | none => (81, G)
   | some way => upG way.length way.reverse G (withPairN (lastN way).2.1 (lastN way).2.2.1 key val)
 else (1, G)
structure Loose (G G' : WoodS) : Prop where
 base : G'.base = G.base
 gen : G'.gen = G.gen
 len : G'.now.length = G.now.length
 ok : Ok G'
 based : ∀ b, G.counts b → G'.pages[b.toNat]? = G.pages[b.toNat]?
theorem Turn.loose {G G' : WoodS} {O N : Int → Prop} {c : Nat} (t : Turn G G' O N c) : Loose G G' := ⟨t.base, t.gen, t.len, t.ok, t.based⟩
theorem Loose.refl {G : WoodS} (h : Ok G) : Loose G G := ⟨rfl, rfl, rfl, h, fun _ _ => rfl⟩
theorem Loose.trans {G G1 G2 : WoodS} (s : Loose G G1) (t : Loose G1 G2) : Loose G G2 :=
 ⟨t.base.trans s.base, t.gen.trans s.gen, t.len.trans s.len, t.ok, fun b h => (t.based b ((counts_same s.base b).2 h)).trans (s.based b h)⟩
theorem Loose.root {G G' : WoodS} (s : Loose G G') (r : Int) : Loose G (G'.withRoot r) := ⟨s.base, s.gen, s.len, ⟨s.ok.alloc, s.ok.len, s.ok.lo, s.ok.hi, s.ok.room⟩, s.based⟩
theorem lay_loose {G : WoodS} {n : NodeS} (hk : Ok G) : ((layG G n).2.1 = 60 ∨ (layG G n).2.1 = 81) ∨ ((layG G n).2.1 = 0 ∧ 10 ≤ (layG G n).1 ∧ (layG G n).1 < G.now.length ∧ Loose G (layG G n).2.2 ∧ ∀ b, G.has b → (layG G n).2.2.has b) := by
 cases hn : nodeRight n true with
 | false => exact .inl (lay_bad hk hn)
 | true =>
  rcases lay_is hk hn with h | ⟨k, G', h1, h2, h3, _, _, t, _⟩
  ·
   exact .inl (.inl h.1)
  ·
   rw [h1]
   exact .inr ⟨rfl, h2, h3, t.loose, fun b hb => (t.now b).2 (.inl ⟨hb, id⟩)⟩
theorem renew_loose {G : WoodS} {block : Int} {n : NodeS} (hk : Ok G) (hb : G.has block) (h10 : 10 ≤ block) : ((renewG G block n).2.1 = 60 ∨ (renewG G block n).2.1 = 81) ∨ ((renewG G block n).2.1 = 0 ∧ 10 ≤ (renewG G block n).1 ∧ (renewG G block n).1 < G.now.length ∧ Loose G (renewG G block n).2.2 ∧ ∀ b, G.has b → b ≠ block → (renewG G block n).2.2.has b) := by
 cases hn : nodeRight n true with
 | false => exact .inl (renew_bad hk hb h10 hn)
 | true =>
  rcases renew_is hk hb h10 hn with h | ⟨k, G', h1, h2, h3, t, _, _⟩
  ·
   exact .inl (.inl h.1)
  ·
   rw [h1]
   exact .inr ⟨rfl, h2, h3, t.loose, fun b hb hne => (t.now b).2 (.inl ⟨hb, hne⟩)⟩
theorem replace_loose {G : WoodS} {block : Int} {n : NodeS} (hk : Ok G) (hb : G.has block) (h10 : 10 ≤ block) : ((replaceG G block n).1 = 60 ∨ (replaceG G block n).1 = 81) ∨ ((replaceG G block n).1 = 0 ∧ (∃ c cs, (replaceG G block n).2.1.2 = c :: cs ∧ 10 ≤ c ∧ c < G.now.length) ∧ Loose G (replaceG G block n).2.2 ∧ ∀ b, G.has b → b ≠ block → (replaceG G block n).2.2.has b) := by
 unfold replaceG
 split
 ·
  rcases renew_loose (n := n) hk hb h10 with h | ⟨h1, h2, h3, h4, h5⟩
  ·
   exact .inl h
  ·
   exact .inr ⟨h1, ⟨_, _, rfl, h2, h3⟩, h4, h5⟩
 ·
  split
  ·
   split
   ·
    rename_i h0
    rcases renew_loose (n := cutNA n) hk hb h10 with h | ⟨h1, h2, h3, h4, h5⟩
    ·
     rw [h0] at h; omega
    ·
     rcases lay_loose (n := cutNB n) h4.ok with g | ⟨g1, g2, g3, g4, g5⟩
     ·
      exact .inl g
     ·
      exact .inr ⟨g1, ⟨_, _, rfl, h2, h3⟩, h4.trans g4, fun b hb hne => g5 b (h5 b hb hne)⟩
   ·
    rename_i h0
    rcases renew_loose (n := cutNA n) hk hb h10 with h | ⟨h1, _⟩
    ·
     exact .inl h
    ·
     exact absurd h1 h0
  ·
   exact .inl (.inr rfl)
theorem up_loose (N : Nat) : ∀ (up : List StepS) (G : WoodS) (n : NodeS), Ok G → (∀ s ∈ up, G.has s.1 ∧ 10 ≤ s.1) → (up.map (·.1)).Nodup → (up = [] → ∃ c cs, n.2.2.2 = c :: cs ∧ 10 ≤ c ∧ c < G.now.length) →
  ((upG N up G n).1 = 60 ∨ (upG N up G n).1 = 81) ∨ ((upG N up G n).1 = 0 ∧ Loose G (upG N up G n).2 ∧ ((upG N up G n).2.root = G.root ∨ (10 ≤ (upG N up G n).2.root ∧ (upG N up G n).2.root < G.now.length)))
 | [], G, n, hk, _, _, hc => by
  rw [upG]
  split
  ·
   obtain ⟨c, cs, e, h1, h2⟩ := hc rfl
   refine .inr ⟨rfl, (Loose.refl hk).root _, .inr ?_⟩
   show 10 ≤ n.2.2.2.getD 0 0 ∧ n.2.2.2.getD 0 0 < _
   rw [e]
   exact ⟨h1, h2⟩
  ·
   split
   ·
    exact .inl (.inr rfl)
   ·
    unfold plantG
    rcases lay_loose (n := n) hk with h | ⟨h1, h2, h3, h4, _⟩
    ·
     exact .inl h
    ·
     exact .inr ⟨h1, h4.root _, .inr ⟨h2, h3⟩⟩
 | s :: rest, G, n, hk, hh, hn, _ => by
  rw [upG]
  obtain ⟨hb, h10⟩ := hh s (by simp)
  rw [List.map_cons, List.nodup_cons] at hn
  rcases replace_loose (n := n) hk hb h10 with h | ⟨h1, ⟨c, cs, e, h2, h3⟩, h4, h5⟩
  ·
   rw [if_neg (fun x => by have := x.1; omega)]
   exact .inl h
  ·
   split
   ·
    have ih := up_loose N rest (replaceG G s.1 n).2.2 (nextN rest (replaceG G s.1 n).2.1) h4.ok (fun x hx => ⟨h5 _ (hh x (by simp [hx])).1 (fun e => hn.1 (by rw [← e]; exact List.mem_map_of_mem hx)), (hh x (by simp [hx])).2⟩) hn.2 (fun er => ⟨c, cs, by rw [er]; exact e, h2, by rw [h4.len]; exact h3⟩)
    rcases ih with h | ⟨g1, g2, g3⟩
    ·
     exact .inl h
    ·
     refine .inr ⟨g1, h4.trans g2, ?_⟩
     rw [h4.len] at g3
     rcases g3 with g3 | g3
     ·
      left
      rw [g3]
      have : (replaceG G s.1 n).2.2.root = G.root := by
       unfold replaceG
       have rl : ∀ (G : WoodS) n, (layG G n).2.2.root = G.root := by
        intro G n; unfold layG; split
        ·
         unfold writeG; split <;> rfl
        ·
         rfl
       have rr : ∀ (G : WoodS) b n, (renewG G b n).2.2.root = G.root := by
        intro G b n; unfold renewG; split
        ·
         unfold writeG; split <;> rfl
        ·
         rw [rl]; rfl
       split
       ·
        exact rr _ _ _
       ·
        split
        ·
         split
         ·
          rw [rl, rr]
         ·
          exact rr _ _ _
        ·
         rfl
      rw [this]
     ·
      exact .inr g3
   ·
    refine .inr ⟨h1, h4, .inl ?_⟩
    have rl : ∀ (G : WoodS) n, (layG G n).2.2.root = G.root := by
     intro G n; unfold layG; split
     ·
      unfold writeG; split <;> rfl
     ·
      rfl
    have rr : ∀ (G : WoodS) b n, (renewG G b n).2.2.root = G.root := by
     intro G b n; unfold renewG; split
     ·
      unfold writeG; split <;> rfl
     ·
      rw [rl]; rfl
    unfold replaceG
    split
    ·
     exact rr _ _ _
    ·
     split
     ·
      split
      ·
       rw [rl, rr]
      ·
       exact rr _ _ _
     ·
      rfl
theorem down_det {G : WoodS} {key : ByteArray} : ∀ (k k' : Nat) (b : Int) (r r' : Bool) (w1 w2 : List StepS), downG G.holds key k b r = some w1 → downG G.holds key k' b r' = some w2 → w1 = w2
 | 0, _, _, _, _, _, _, h, _ => by cases h
 | _ + 1, 0, _, _, _, _, _, _, h => by cases h
 | k + 1, k' + 1, b, r, r', w1, w2, h1, h2 => by
  have same : ∀ {n n' : NodeS}, G.holds b r = some n → G.holds b r' = some n' → n = n' := by
   intro n n' g1 g2
   unfold WoodS.holds holdsS at g1 g2
   split at g1
   ·
    rename_i hc
    rw [if_pos hc] at g2
    unfold pageN at g1 g2
    split at g1
    ·
     split at g2
     ·
      cases g1; cases g2; rfl
     ·
      cases g2
    ·
     cases g1
   ·
    cases g1
  cases hn : G.holds b r with
  | none => rw [downG, hn] at h1; cases h1
  | some n =>
   cases hn' : G.holds b r' with
   | none => rw [downG, hn'] at h2; cases h2
   | some n' =>
    obtain rfl := same hn hn'
    rw [downG_at hn] at h1
    rw [downG_at hn'] at h2
    split at h1
    ·
     rename_i hl
     rw [if_pos hl] at h2
     cases h1; cases h2; rfl
    ·
     rename_i hl
     rw [if_neg hl] at h2
     obtain ⟨x1, e1, rfl⟩ := Option.map_eq_some_iff.1 h1
     obtain ⟨x2, e2, rfl⟩ := Option.map_eq_some_iff.1 h2
     rw [down_det k k' _ _ _ x1 x2 e1 e2]
theorem down_way {G : WoodS} {key : ByteArray} : ∀ (k : Nat) (b : Int) (r : Bool) (w : List StepS), downG G.holds key k b r = some w → (∃ n i tl, w = (b, n, i) :: tl) ∧ (w.map (·.1)).Nodup ∧ (∀ s ∈ w, G.has s.1 ∧ 10 ≤ s.1) ∧ (∀ s ∈ w, ∃ k' r' w', downG G.holds key k' s.1 r' = some w' ∧ w'.length ≤ w.length)
 | 0, _, _, _, h => by cases h
 | k + 1, b, r, w, h => by
  cases hn : G.holds b r with
  | none => rw [downG, hn] at h; cases h
  | some n =>
   have h0 := h
   rw [downG_at hn] at h
   obtain ⟨hb, h10, _⟩ := holds_has hn
   split at h
   ·
    cases h
    refine ⟨⟨_, _, _, rfl⟩, by simp, fun s hs => ?_, fun s hs => ?_⟩
    ·
     simp at hs; subst hs; exact ⟨hb, h10⟩
    ·
     simp at hs; subst hs; exact ⟨k + 1, r, _, h0, Nat.le_refl _⟩
   ·
    obtain ⟨x, e, rfl⟩ := Option.map_eq_some_iff.1 h
    obtain ⟨_, i2, i3, i4⟩ := down_way k _ _ x e
    refine ⟨⟨_, _, _, rfl⟩, ?_, fun s hs => ?_, fun s hs => ?_⟩
    ·
     rw [List.map_cons, List.nodup_cons]
     refine ⟨fun hm => ?_, i2⟩
     obtain ⟨s, hs, es⟩ := List.mem_map.1 hm
     obtain ⟨k', r', w', g1, g2⟩ := i4 s hs
     have es' : s.1 = b := es
     rw [es'] at g1
     have := down_det _ _ _ _ _ _ _ g1 h0
     rw [this] at g2
     simp at g2
     omega
    ·
     rcases List.mem_cons.1 hs with rfl | hs
     ·
      exact ⟨hb, h10⟩
     ·
      exact i3 s hs
    ·
     rcases List.mem_cons.1 hs with rfl | hs
     ·
      exact ⟨k + 1, r, _, h0, Nat.le_refl _⟩
     ·
      obtain ⟨k', r', w', g1, g2⟩ := i4 s hs
      exact ⟨k', r', w', g1, by simp; omega⟩
theorem put_loose {G : WoodS} (hr : G.right = true) (key val : ByteArray) : ((putG G key val).1 = 1 ∧ isPairB key val = false) ∨ isPairB key val = true ∧ (((putG G key val).1 = 60 ∨ (putG G key val).1 = 81) ∨ ((putG G key val).1 = 0 ∧ (putG G key val).2.right = true ∧ Loose G (putG G key val).2)) := by
 obtain ⟨hk, hroot⟩ := right_ok.1 hr
 cases hp : isPairB key val with
 | false => left; unfold putG; rw [hp]; exact ⟨rfl, rfl⟩
 | true =>
  right
  refine ⟨rfl, ?_⟩
  unfold putG
  rw [if_pos hp]
  split
  ·
   unfold plantG
   rcases lay_loose (n := withPairN [] [] key val) hk with h | ⟨h1, h2, h3, h4, _⟩
   ·
    exact .inl h
   ·
    have := h4.root (layG G (withPairN [] [] key val)).1
    exact .inr ⟨h1, right_ok.2 ⟨this.ok, .inr ⟨h2, by rw [this.len]; exact h3⟩⟩, this⟩
  ·
   split
   ·
    exact .inl (.inr rfl)
   ·
    split
    ·
     exact .inl (.inr rfl)
    ·
     rename_i way hw
     obtain ⟨⟨n, i, tl, e⟩, h1, h2, _⟩ := down_way 8 _ _ way hw
     rcases up_loose way.length way.reverse G (withPairN (lastN way).2.1 (lastN way).2.2.1 key val) hk (fun s hs => h2 s (List.mem_reverse.1 hs)) (by rw [List.map_reverse]; exact (List.reverse_perm _).nodup_iff.2 h1) (fun er => by rw [e] at er; simp at er) with h | ⟨g1, g2, g3⟩
     ·
      exact .inl h
     ·
      refine .inr ⟨g1, right_ok.2 ⟨g2.ok, ?_⟩, g2⟩
      rw [g2.len]
      rcases g3 with g3 | g3
      ·
       rw [g3]; exact hroot
      ·
       exact .inr g3
structure KeepsG (G G' : WoodS) (old new : List Int) : Prop where
 base : G'.base = G.base
 gen : G'.gen = G.gen
 len : G'.now.length = G.now.length
 plen : G'.pages.length = G.pages.length
 now : ∀ b, G'.has b ↔ (G.has b ∧ b ∉ old) ∨ b ∈ new
 based : ∀ b, G.counts b → G'.pages[b.toNat]? = G.pages[b.toNat]?
 gens : ∀ b ∈ new, (b ∈ old ∧ G'.pages[b.toNat]? = G.pages[b.toNat]?) ∨ G'.newPage b
theorem Turn.keeps {G G' : WoodS} {O N : Int → Prop} {c : Nat} (t : Turn G G' O N c) (hk : Ok G) {B B' : List Int} (hB : ∀ b ∈ B, G.has b) (hO : ∀ b, O b → b ∈ B) (hm : ∀ b, b ∈ B' ↔ (b ∈ B ∧ ¬ O b) ∨ N b) (r : Int) : KeepsG G (G'.withRoot r) B B' := by
 have w := t.widen (fun b => b ∈ B ∧ ¬ O b) (fun b h => ⟨hB b h.1, h.2⟩)
 have e1 : ∀ b, (O b ∨ (b ∈ B ∧ ¬ O b)) ↔ b ∈ B := fun b => ⟨fun h => h.elim (hO b) And.left, fun h => (Classical.em (O b)).imp id fun x => ⟨h, x⟩⟩
 have e2 : ∀ b, (N b ∨ (b ∈ B ∧ ¬ O b)) ↔ b ∈ B' := fun b => by rw [hm]; exact Or.comm
 refine ⟨t.base, t.gen, t.len, t.plen hk, fun b => ?_, t.based, fun b hb => ?_⟩
 ·
  have h1 := w.now b
  rw [e1, e2] at h1
  exact h1
 ·
  rcases w.gens b ((e2 b).2 hb) with ⟨h1, h2⟩ | h1
  ·
   exact .inl ⟨(e1 b).1 h1, h2⟩
  ·
   exact .inr h1
theorem withPair_nil (key val : ByteArray) : withPairN [] [] key val = (true, [key], [val], []) := rfl
set_option maxRecDepth 20000 in
theorem haveRoom_any (b : Option Addr) (p f : Nat) (ps : List ByteArray) (w : World) (hp : p = ps.length) (hP : IsS w b f ps) :
  Calls Tryz.prog 44 #[.slice b p f] w fun e w' => e = .returned (.bool (ps.all fun s => decide (s.size ≤ 4096))) ∧ Below w.heap.size w w' := by
 have mp : p ≤ 9223372036854775807 := by rw [hp]; exact Nat.le_trans hP.1 hP.2.1
 have EP : Hid (p = ps.length) := hp
 have RP : Hid (IsS w b f ps) := hP
 have HB : Below w.heap.size w w := Below.refl _ _
 obtain ⟨r, hr⟩ : ∃ r, Hid (r = ps.all fun s => decide (s.size ≤ 4096)) := ⟨_, rfl⟩
 rw [← hr.out]
 clear hp hP
 go_enter Tryz.func44, Tryz.ntmps44
 go_wp2
 go_loop [7] (fun v => ∃ j : Nat, j ≤ p ∧ v = .int .i64 j ∧ (ps.take j).all (fun s => decide (s.size ≤ 4096)) = true) (fun v => p - (intOf v).toNat)
 case atStart => exact ⟨0, by omega, rfl, rfl⟩
 case round =>
  obtain ⟨j, hj, rfl, hA⟩ := hrel
  have HA : Hid ((ps.take j).all (fun s => decide (s.size ≤ 4096)) = true) := hA
  clear hA
  by_cases hlt : j < p
  ·
   have hlt' : (j : Int) < p := by omega
   obtain ⟨s, hs⟩ : ∃ x, Hid (ps[j]? = some x) := get_some (by rw [← EP.out]; exact hlt)
   obtain ⟨b1, o1, rfl, -, hc, hss⟩ := RP.out.2.2 j s hs.out
   by_cases hsz : s.size ≤ 4096
   ·
    have hsz' : ¬ (4096 : Int) < s.size := by omega
    go_wp2
    go_round
    case rel => exact ⟨j + 1, by omega, by go_num, by rw [all_more hs.out, HA.out, decide_eq_true hsz]; rfl⟩
    case measure => simp [intOf]; omega
   ·
    have hsz' : (4096 : Int) < s.size := by omega
    have hrf : Hid (r = false) := by
     show _ = _
     rw [hr.out, List.all_eq_false.2 ⟨s, List.mem_of_getElem? hs.out, by simpa using hsz⟩]
    go_wp2
    go_ret
    exact ⟨by rw [hrf.out]; rfl, HB⟩
  ·
   obtain rfl : p = j := by omega
   have hj0 : ¬ (p : Int) < p := by omega
   have hall : Hid (r = true) := by
    show _ = _
    have := HA.out
    rw [EP.out, List.take_length] at this
    rw [hr.out]
    exact this
   go_wp2
   go_ret
   exact ⟨by rw [hall.out]; rfl, HB⟩
set_option maxRecDepth 20000 in
theorem behind_any (a a' b : Option Addr) (n c n' c' p f : Nat) (root gen block : Int) (w : World) (mn : n' ≤ 9223372036854775807) :
  Calls Tryz.prog 45 #[.agg #[.slice a n c, .slice a' n' c', .slice b p f, .int .i64 root, .int .i64 gen], .int .i64 block] w fun e w' => e = .returned (.bool (decide (10 ≤ block) && decide (block < (n' : Int)))) ∧ Below w.heap.size w w' := by
 have HB : Below w.heap.size w (w.alloc (.cells #[.slice a n c, .slice a' n' c', .slice b p f, .int .i64 root, .int .i64 gen] 27)) := (Below.refl _ _).alloc (Nat.le_refl _) _
 have BW := woodBox_new w (.slice a n c) (.slice a' n' c') (.slice b p f) (.int .i64 root) (.int .i64 gen) 27 rfl
 obtain ⟨x0, x1, x2, x3, x4⟩ := BW
 obtain ⟨r, hr⟩ : ∃ r, r = (decide (10 ≤ block) && decide (block < (n' : Int))) := ⟨_, rfl⟩
 rw [← hr]
 by_cases h1 : 10 ≤ block
 ·
  have hr' : Hid (r = decide (block < (n' : Int))) := by show _ = _; rw [hr, decide_eq_true h1]; rfl
  clear hr
  go_enter Tryz.func45, Tryz.ntmps45
  go_wp2
  go_ret
  exact ⟨by rw [hr'.out]; rfl, HB⟩
 ·
  have hr' : Hid (r = false) := by show _ = _; rw [hr, decide_eq_false h1]; rfl
  have h1' : ¬ 10 ≤ block := h1
  clear hr
  go_enter Tryz.func45, Tryz.ntmps45
  go_wp2
  go_ret
  exact ⟨by rw [hr'.out]; rfl, HB⟩
set_option maxRecDepth 20000 in
set_option maxHeartbeats 2000000 in
theorem lookRight_any (a a' b : Option Addr) (n c n' c' p f : Nat) (bs ns : List Bool) (ps : List ByteArray) (root gen : Int) (w : World) (hn : n = bs.length) (hn' : n' = ns.length) (hp : p = ps.length) (hB : IsB w a c bs) (hB' : IsB w a' c' ns) (hP : IsS w b f ps) :
  Calls Tryz.prog 30 #[.agg #[.slice a n c, .slice a' n' c', .slice b p f, .int .i64 root, .int .i64 gen]] w fun e w' => e = .returned (.bool (rightW bs ns ps root gen)) ∧ Below w.heap.size w w' := by
 obtain ⟨W, hW⟩ : ∃ W, W = w.alloc (.cells #[.slice a n c, .slice a' n' c', .slice b p f, .int .i64 root, .int .i64 gen] 27) := ⟨_, rfl⟩
 have HB : Below w.heap.size w W := by rw [hW]; exact (Below.refl _ _).alloc (Nat.le_refl _) _
 have BW : WoodBox W w.heap.size (.slice a n c) (.slice a' n' c') (.slice b p f) (.int .i64 root) (.int .i64 gen) := by rw [hW]; exact woodBox_new _ _ _ _ _ _ _ rfl
 have cA := allocRight_any a a' c c' n n' bs ns W hn hn' (hB.below HB) (hB'.below HB)
 have cH0 : ∀ V, Below w.heap.size w V → Calls Tryz.prog 44 #[.slice b p f] V fun e w' => e = .returned (.bool (ps.all fun s => decide (s.size ≤ 4096))) ∧ Below V.heap.size V w' := fun V hV => haveRoom_any b p f ps V hp (hP.below hV)
 have mn : n' ≤ 9223372036854775807 := by rw [hn']; exact Nat.le_trans hB'.1 hB'.2.1
 have mp : p ≤ 9223372036854775807 := by rw [hp]; exact Nat.le_trans hP.1 hP.2.1
 have cB0 : ∀ V, Calls Tryz.prog 45 #[.agg #[.slice a n c, .slice a' n' c', .slice b p f, .int .i64 root, .int .i64 gen], .int .i64 root] V fun e w' => e = .returned (.bool (decide (10 ≤ root) && decide (root < (n' : Int)))) ∧ Below V.heap.size V w' := fun V => behind_any a a' b n c n' c' p f root gen root V mn
 obtain ⟨r, hr⟩ : ∃ r, r = rightW bs ns ps root gen := ⟨_, rfl⟩
 rw [← hr]
 unfold rightW at hr
 rw [← hp, ← hn'] at hr
 obtain ⟨rA, hA⟩ : ∃ x, x = rightA bs ns := ⟨_, rfl⟩
 obtain ⟨rH, hH⟩ : ∃ x, x = ps.all fun s => decide (s.size ≤ 4096) := ⟨_, rfl⟩
 obtain ⟨rB, hBB⟩ : ∃ x, x = (decide (10 ≤ root) && decide (root < (n' : Int))) := ⟨_, rfl⟩
 rw [← hA] at hr cA
 rw [← hH, ← hBB] at hr
 obtain ⟨x0, x1, x2, x3, x4⟩ := id (hW ▸ BW)
 have cH : ∀ V, Below w.heap.size w V → Calls Tryz.prog 44 #[.slice b p f] V fun e w' => e = .returned (.bool rH) ∧ Below V.heap.size V w' := fun V hV => by rw [hH]; exact cH0 V hV
 have cB : ∀ V, Calls Tryz.prog 45 #[.agg #[.slice a n c, .slice a' n' c', .slice b p f, .int .i64 root, .int .i64 gen], .int .i64 root] V fun e w' => e = .returned (.bool rB) ∧ Below V.heap.size V w' := fun V => by rw [hBB]; exact cB0 V
 clear hn hn' hp hB hB' hP cH0 cB0 hA hH hBB
 cases rA with
 | false =>
  have hrf : Hid (r = false) := by show _ = _; rw [hr]; simp
  clear hr
  go_enter Tryz.func30, Tryz.ntmps30
  go_wp2_with (first
   | (go_at_call 43; rw [← hW]; refine cA.mono ?_; rintro y w1 ⟨rfl, hb⟩; replace HB := Below.tr HB hb; replace BW := BW.below hb; clear x0 x1 x2 x3 x4; obtain ⟨x0, x1, x2, x3, x4⟩ := id BW; clear hb)
   | (go_at_call 44; refine (cH _ HB).mono ?_; rintro y w2 ⟨rfl, hb⟩; replace HB := Below.tr HB hb; replace BW := BW.below hb; clear x0 x1 x2 x3 x4; obtain ⟨x0, x1, x2, x3, x4⟩ := id BW; clear hb)
   | (go_at_call 45; refine (cB _).mono ?_; rintro y w3 ⟨rfl, hb⟩; replace HB := Below.tr HB hb; replace BW := BW.below hb; clear x0 x1 x2 x3 x4; obtain ⟨x0, x1, x2, x3, x4⟩ := id BW; clear hb))
  go_ret
  exact ⟨by rw [hrf.out]; rfl, HB⟩
 | true =>
  by_cases h1 : p = n'
  ·
   have h1' : ((p : Int) == n') = true := by simp [h1]
   replace hr : r = (decide (1 ≤ gen) && decide (gen ≤ 1099511627776) && rH && (decide (root = 0) || rB)) := by rw [hr, decide_eq_true h1]; simp
   clear h1
   cases rH with
   | false =>
    have hrf : Hid (r = false) := by show _ = _; rw [hr]; simp
    clear hr
    go_enter Tryz.func30, Tryz.ntmps30
    go_wp2_with (first
     | (go_at_call 43; rw [← hW]; refine cA.mono ?_; rintro y w1 ⟨rfl, hb⟩; replace HB := Below.tr HB hb; replace BW := BW.below hb; clear x0 x1 x2 x3 x4; obtain ⟨x0, x1, x2, x3, x4⟩ := id BW; clear hb)
     | (go_at_call 44; refine (cH _ HB).mono ?_; rintro y w2 ⟨rfl, hb⟩; replace HB := Below.tr HB hb; replace BW := BW.below hb; clear x0 x1 x2 x3 x4; obtain ⟨x0, x1, x2, x3, x4⟩ := id BW; clear hb)
     | (go_at_call 45; refine (cB _).mono ?_; rintro y w3 ⟨rfl, hb⟩; replace HB := Below.tr HB hb; replace BW := BW.below hb; clear x0 x1 x2 x3 x4; obtain ⟨x0, x1, x2, x3, x4⟩ := id BW; clear hb))
    go_ret
    exact ⟨by rw [hrf.out]; rfl, HB⟩
   | true =>
    by_cases h2 : root = 0
    ·
     have h2' : (root == 0) = true := by simp [h2]
     replace hr : r = (decide (1 ≤ gen) && decide (gen ≤ 1099511627776)) := by rw [hr, decide_eq_true h2]; simp
     clear h2
     by_cases h3 : 1 ≤ gen
     ·
      have hrf : Hid (r = decide (gen ≤ 1099511627776)) := by show _ = _; rw [hr, decide_eq_true h3]; rfl
      clear hr
      go_enter Tryz.func30, Tryz.ntmps30
      go_wp2_with (first
       | (go_at_call 43; rw [← hW]; refine cA.mono ?_; rintro y w1 ⟨rfl, hb⟩; replace HB := Below.tr HB hb; replace BW := BW.below hb; clear x0 x1 x2 x3 x4; obtain ⟨x0, x1, x2, x3, x4⟩ := id BW; clear hb)
       | (go_at_call 44; refine (cH _ HB).mono ?_; rintro y w2 ⟨rfl, hb⟩; replace HB := Below.tr HB hb; replace BW := BW.below hb; clear x0 x1 x2 x3 x4; obtain ⟨x0, x1, x2, x3, x4⟩ := id BW; clear hb)
       | (go_at_call 45; refine (cB _).mono ?_; rintro y w3 ⟨rfl, hb⟩; replace HB := Below.tr HB hb; replace BW := BW.below hb; clear x0 x1 x2 x3 x4; obtain ⟨x0, x1, x2, x3, x4⟩ := id BW; clear hb))
      go_ret
      exact ⟨by rw [hrf.out]; rfl, HB⟩
     ·
      have hrf : Hid (r = false) := by show _ = _; rw [hr, decide_eq_false h3]; rfl
      clear hr
      go_enter Tryz.func30, Tryz.ntmps30
      go_wp2_with (first
       | (go_at_call 43; rw [← hW]; refine cA.mono ?_; rintro y w1 ⟨rfl, hb⟩; replace HB := Below.tr HB hb; replace BW := BW.below hb; clear x0 x1 x2 x3 x4; obtain ⟨x0, x1, x2, x3, x4⟩ := id BW; clear hb)
       | (go_at_call 44; refine (cH _ HB).mono ?_; rintro y w2 ⟨rfl, hb⟩; replace HB := Below.tr HB hb; replace BW := BW.below hb; clear x0 x1 x2 x3 x4; obtain ⟨x0, x1, x2, x3, x4⟩ := id BW; clear hb)
       | (go_at_call 45; refine (cB _).mono ?_; rintro y w3 ⟨rfl, hb⟩; replace HB := Below.tr HB hb; replace BW := BW.below hb; clear x0 x1 x2 x3 x4; obtain ⟨x0, x1, x2, x3, x4⟩ := id BW; clear hb))
      go_ret
      exact ⟨by rw [hrf.out]; rfl, HB⟩
    ·
     have h2' : (root == 0) = false := by simp [h2]
     replace hr : r = (decide (1 ≤ gen) && decide (gen ≤ 1099511627776) && rB) := by rw [hr, decide_eq_false h2]; simp
     cases rB with
     | false =>
      have hrf : Hid (r = false) := by show _ = _; rw [hr]; simp
      clear hr
      go_enter Tryz.func30, Tryz.ntmps30
      go_wp2_with (first
       | (go_at_call 43; rw [← hW]; refine cA.mono ?_; rintro y w1 ⟨rfl, hb⟩; replace HB := Below.tr HB hb; replace BW := BW.below hb; clear x0 x1 x2 x3 x4; obtain ⟨x0, x1, x2, x3, x4⟩ := id BW; clear hb)
       | (go_at_call 44; refine (cH _ HB).mono ?_; rintro y w2 ⟨rfl, hb⟩; replace HB := Below.tr HB hb; replace BW := BW.below hb; clear x0 x1 x2 x3 x4; obtain ⟨x0, x1, x2, x3, x4⟩ := id BW; clear hb)
       | (go_at_call 45; refine (cB _).mono ?_; rintro y w3 ⟨rfl, hb⟩; replace HB := Below.tr HB hb; replace BW := BW.below hb; clear x0 x1 x2 x3 x4; obtain ⟨x0, x1, x2, x3, x4⟩ := id BW; clear hb))
      go_ret
      exact ⟨by rw [hrf.out]; rfl, HB⟩
     | true =>
      by_cases h3 : 1 ≤ gen
      ·
       have hrf : Hid (r = decide (gen ≤ 1099511627776)) := by show _ = _; rw [hr, decide_eq_true h3]; simp
       clear hr
       go_enter Tryz.func30, Tryz.ntmps30
       go_wp2_with (first
        | (go_at_call 43; rw [← hW]; refine cA.mono ?_; rintro y w1 ⟨rfl, hb⟩; replace HB := Below.tr HB hb; replace BW := BW.below hb; clear x0 x1 x2 x3 x4; obtain ⟨x0, x1, x2, x3, x4⟩ := id BW; clear hb)
        | (go_at_call 44; refine (cH _ HB).mono ?_; rintro y w2 ⟨rfl, hb⟩; replace HB := Below.tr HB hb; replace BW := BW.below hb; clear x0 x1 x2 x3 x4; obtain ⟨x0, x1, x2, x3, x4⟩ := id BW; clear hb)
        | (go_at_call 45; refine (cB _).mono ?_; rintro y w3 ⟨rfl, hb⟩; replace HB := Below.tr HB hb; replace BW := BW.below hb; clear x0 x1 x2 x3 x4; obtain ⟨x0, x1, x2, x3, x4⟩ := id BW; clear hb))
       go_ret
       exact ⟨by rw [hrf.out]; rfl, HB⟩
      ·
       have hrf : Hid (r = false) := by show _ = _; rw [hr, decide_eq_false h3]; rfl
       clear hr
       go_enter Tryz.func30, Tryz.ntmps30
       go_wp2_with (first
        | (go_at_call 43; rw [← hW]; refine cA.mono ?_; rintro y w1 ⟨rfl, hb⟩; replace HB := Below.tr HB hb; replace BW := BW.below hb; clear x0 x1 x2 x3 x4; obtain ⟨x0, x1, x2, x3, x4⟩ := id BW; clear hb)
        | (go_at_call 44; refine (cH _ HB).mono ?_; rintro y w2 ⟨rfl, hb⟩; replace HB := Below.tr HB hb; replace BW := BW.below hb; clear x0 x1 x2 x3 x4; obtain ⟨x0, x1, x2, x3, x4⟩ := id BW; clear hb)
        | (go_at_call 45; refine (cB _).mono ?_; rintro y w3 ⟨rfl, hb⟩; replace HB := Below.tr HB hb; replace BW := BW.below hb; clear x0 x1 x2 x3 x4; obtain ⟨x0, x1, x2, x3, x4⟩ := id BW; clear hb))
       go_ret
       exact ⟨by rw [hrf.out]; rfl, HB⟩
  ·
   have h1' : ((p : Int) == n') = false := by simp; omega
   have hrf : Hid (r = false) := by show _ = _; rw [hr, decide_eq_false h1]; simp
   clear hr h1
   go_enter Tryz.func30, Tryz.ntmps30
   go_wp2_with (first
    | (go_at_call 43; rw [← hW]; refine cA.mono ?_; rintro y w1 ⟨rfl, hb⟩; replace HB := Below.tr HB hb; replace BW := BW.below hb; clear x0 x1 x2 x3 x4; obtain ⟨x0, x1, x2, x3, x4⟩ := id BW; clear hb)
    | (go_at_call 44; refine (cH _ HB).mono ?_; rintro y w2 ⟨rfl, hb⟩; replace HB := Below.tr HB hb; replace BW := BW.below hb; clear x0 x1 x2 x3 x4; obtain ⟨x0, x1, x2, x3, x4⟩ := id BW; clear hb)
    | (go_at_call 45; refine (cB _).mono ?_; rintro y w3 ⟨rfl, hb⟩; replace HB := Below.tr HB hb; replace BW := BW.below hb; clear x0 x1 x2 x3 x4; obtain ⟨x0, x1, x2, x3, x4⟩ := id BW; clear hb))
   go_ret
   exact ⟨by rw [hrf.out]; rfl, HB⟩
def NodeIn (V : World) (h : Nat) (l : Bool) (a : Option Addr) (m c : Nat) (a' : Option Addr) (m' c' : Nat) (a'' : Option Addr) (m'' c'' : Nat) (ks vs : List ByteArray) (cs : List Int) : Prop :=
 Box4 V h (.bool l) (.slice a m c) (.slice a' m' c') (.slice a'' m'' c'') ∧ m = ks.length ∧ m' = vs.length ∧ m'' = cs.length ∧ IsS V a c ks ∧ IsS V a' c' vs ∧ IsI V a'' c'' cs
theorem NodeIn.below {V : World} {h : Nat} {l : Bool} {a : Option Addr} {m c : Nat} {a' : Option Addr} {m' c' : Nat} {a'' : Option Addr} {m'' c'' : Nat} {ks vs : List ByteArray} {cs : List Int} (n : NodeIn V h l a m c a' m' c' a'' m'' c'' ks vs cs) {V' : World} (hb : Below V.heap.size V V') : NodeIn V' h l a m c a' m' c' a'' m'' c'' ks vs cs :=
 ⟨n.1.below hb, n.2.1, n.2.2.1, n.2.2.2.1, n.2.2.2.2.1.below hb, n.2.2.2.2.2.1.below hb, n.2.2.2.2.2.2.below hb⟩
theorem NodeIn.box {V : World} {h : Nat} {l : Bool} {a : Option Addr} {m c : Nat} {a' : Option Addr} {m' c' : Nat} {a'' : Option Addr} {m'' c'' : Nat} {ks vs : List ByteArray} {cs : List Int} (n : NodeIn V h l a m c a' m' c' a'' m'' c'' ks vs cs) : Box4 V h (.bool l) (.slice a m c) (.slice a' m' c') (.slice a'' m'' c'') := n.1
def WoodIn (V : World) (h : Nat) (a : Option Addr) (n c : Nat) (a' : Option Addr) (n' c' : Nat) (b : Option Addr) (p f : Nat) (bs ns : List Bool) (ps : List ByteArray) (root gen : Int) : Prop :=
 WoodBox V h (.slice a n c) (.slice a' n' c') (.slice b p f) (.int .i64 root) (.int .i64 gen) ∧ n = bs.length ∧ n' = ns.length ∧ p = ps.length ∧ IsB V a c bs ∧ IsB V a' c' ns ∧ IsS V b f ps
theorem WoodIn.below {V V' : World} {h : Nat} {a : Option Addr} {n c : Nat} {a' : Option Addr} {n' c' : Nat} {b : Option Addr} {p f : Nat} {bs ns : List Bool} {ps : List ByteArray} {root gen : Int} (x : WoodIn V h a n c a' n' c' b p f bs ns ps root gen) (hb : Below V.heap.size V V') : WoodIn V' h a n c a' n' c' b p f bs ns ps root gen :=
 ⟨x.1.below hb, x.2.1, x.2.2.1, x.2.2.2.1, x.2.2.2.2.1.below hb, x.2.2.2.2.2.1.below hb, x.2.2.2.2.2.2.below hb⟩
def LoadC (V : World) (x : Ending) (V' : World) (right : Bool) (o : Option NodeS) : Prop :=
 if right = true then (match o with
  | none => Answers V x V' false [] [] [] 81
  | some nd => Answers V x V' nd.1 nd.2.1 nd.2.2.1 nd.2.2.2 0) else Answers V x V' false [] [] [] 1
theorem not_take {ms : List Int} {v x : Int} {j : Nat} (h : ∀ y ∈ ms.take j, ¬ y = v) (hx : ms[j]? = some x) (hne : ¬ v = x) : ∀ y ∈ ms.take (j + 1), ¬ y = v := by
 intro y hy
 rw [List.take_add_one, hx] at hy
 simp at hy
 rcases hy with hy | hy
 ·
  exact h y hy
 ·
  subst hy; exact fun e => hne e.symm
set_option maxHeartbeats 400000 in
theorem index_any (a : Option Addr) (c : Nat) (ms : List Int) (v : Int) (w : World) (hI : IsI w a c ms) :
  Calls Tryz.prog 115 #[.slice a ms.length c, .int .i64 v] w fun e w' => (∃ r : Int, e = .returned (.int .i64 r) ∧ (decide (0 ≤ r) = decide (v ∈ ms))) ∧ w = w' := by
 have hm : ms.length ≤ 9223372036854775807 := Nat.le_trans hI.1 hI.2.1
 have HI : Hid (IsI w a c ms) := hI
 clear hI
 go_enter Tryz.func115, Tryz.ntmps115
 go_wp2
 go_loop [8] (fun u => ∃ j : Nat, j ≤ ms.length ∧ u = .int .i64 j ∧ ∀ y ∈ ms.take j, ¬ y = v) (fun u => ms.length - (intOf u).toNat)
 case atStart => exact ⟨0, by omega, rfl, fun y hy => by simp at hy⟩
 case round =>
  obtain ⟨j, hj, rfl, HA⟩ := hrel
  by_cases hlt : j < ms.length
  ·
   obtain ⟨x, hx⟩ : ∃ x, ms[j]? = some x := ⟨_, List.getElem?_eq_getElem hlt⟩
   obtain ⟨b, o, rfl, hlb, hc⟩ := HI.out.2.2 j x hx
   have hmem : Hid (x ∈ ms) := List.mem_of_getElem? hx
   have hA' : Hid (¬ v = x → ∀ y ∈ ms.take (j + 1), ¬ y = v) := not_take HA hx
   clear HA hx hlb
   have hlt' : (j : Int) < ms.length := by omega
   by_cases he : v = x
   ·
    subst he
    go_wp2
    go_ret
    exact ⟨⟨j, rfl, by simpa using hmem.out⟩, rfl⟩
   ·
    have he' : (v == x) = false := by simpa using he
    go_wp2
    go_round
    case rel => exact ⟨j + 1, by omega, by go_num, hA'.out he⟩
    case measure => simp [intOf]; omega
  ·
   obtain rfl : j = ms.length := by omega
   rw [List.take_length] at HA
   have HB : Hid (¬ v ∈ ms) := fun h => HA v h rfl
   clear HA hj hlt
   go_wp2
   go_ret
   exact ⟨⟨-1, rfl, by simpa using HB.out⟩, rfl⟩
theorem contains_any (a : Option Addr) (c : Nat) (ms : List Int) (v : Int) (w : World) (hI : IsI w a c ms) :
  Calls Tryz.prog 90 #[.slice a ms.length c, .int .i64 v] w fun e w' => e = .returned (.bool (decide (v ∈ ms))) ∧ w = w' := by
 have c1 := index_any a c ms v w hI
 obtain ⟨n, hn⟩ : ∃ n, n = ms.length := ⟨_, rfl⟩
 rw [← hn] at c1 ⊢
 clear hI hn
 go_enter Tryz.func90, Tryz.ntmps90
 go_wp2_with (go_at_call 115; refine c1.mono ?_; rintro e w1 ⟨⟨r, rfl, hr⟩, rfl⟩; have hr' : Hid _ := hr; clear hr)
 go_ret
 exact ⟨ret_bool hr'.out, rfl⟩
def wantE (s : ByteArray) (ms : List Int) : Int := if readE s = 0 then (if readK s ∈ ms then 0 else 40) else readE s
def wantK (s : ByteArray) (ms : List Int) : Int := if wantE s ms = 0 then readK s else 0
def wantG (s : ByteArray) (ms : List Int) : Int := if wantE s ms = 0 then readG s else 0
def wantB (s : ByteArray) (ms : List Int) : ByteArray := if wantE s ms = 0 then readB s else ⟨#[]⟩
set_option maxHeartbeats 1000000 in
theorem want_any (s : ByteArray) (a : Option Addr) (c : Nat) (ms : List Int) (w : World) (hs : s.size ≤ maxLen) (hI : IsI w a c ms) :
  Calls Tryz.prog 78 #[.string s, .slice a ms.length c] w fun e w' => e = .returned (.tuple #[.agg #[.int .i64 (wantK s ms), .int .i64 (wantG s ms), .string (wantB s ms)], .int .i64 (wantE s ms)]) ∧ Below w.heap.size w w' := by
 have c1 := fun W => pageGet_any s W hs
 obtain ⟨E, hE⟩ : ∃ E, E = readE s := ⟨_, rfl⟩
 obtain ⟨K, hK⟩ : ∃ K, K = readK s := ⟨_, rfl⟩
 obtain ⟨G, hG⟩ : ∃ G, G = readG s := ⟨_, rfl⟩
 obtain ⟨B, hB⟩ : ∃ B, B = readB s := ⟨_, rfl⟩
 have c2 : ∀ W, Below w.heap.size w W → Calls Tryz.prog 90 #[.slice a ms.length c, .int .i64 K] W fun e w' => e = .returned (.bool (decide (K ∈ ms))) ∧ W = w' :=
  fun W hW => contains_any a c ms K W (hI.below hW)
 have xE : wantE s ms = if E = 0 then (if K ∈ ms then 0 else 40) else E := by rw [hE, hK]; rfl
 have xK : wantK s ms = if wantE s ms = 0 then K else 0 := by rw [hK]; rfl
 have xG : wantG s ms = if wantE s ms = 0 then G else 0 := by rw [hG]; rfl
 have xB : wantB s ms = if wantE s ms = 0 then B else ⟨#[]⟩ := by rw [hB]; rfl
 rw [← hE, ← hK, ← hG, ← hB] at c1
 clear hE hK hG hB hI
 obtain ⟨n, hn⟩ : ∃ n, n = ms.length := ⟨_, rfl⟩
 rw [← hn] at c2 ⊢
 clear hn
 obtain ⟨rE, hrE⟩ : ∃ r, r = wantE s ms := ⟨_, rfl⟩
 obtain ⟨rK, hrK⟩ : ∃ r, r = wantK s ms := ⟨_, rfl⟩
 obtain ⟨rG, hrG⟩ : ∃ r, r = wantG s ms := ⟨_, rfl⟩
 obtain ⟨rB, hrB⟩ : ∃ r, r = wantB s ms := ⟨_, rfl⟩
 rw [← hrE, ← hrK, ← hrG, ← hrB]
 rw [← hrE] at xE xK xG xB
 rw [← hrK] at xK
 rw [← hrG] at xG
 rw [← hrB] at xB
 clear hrE hrK hrG hrB
 by_cases h0 : E = 0
 ·
  rw [if_pos h0] at xE
  by_cases hm : K ∈ ms
  ·
   rw [if_pos hm] at xE
   rw [xE] at xK xG xB ⊢
   rw [show rK = K from xK, show rG = G from xG, show rB = B from xB]
   have hd : ∀ W, Below w.heap.size w W → Calls Tryz.prog 90 #[.slice a n c, .int .i64 K] W fun e w' => e = .returned (.bool true) ∧ W = w' := by
    intro W hW; have := c2 W hW; rwa [decide_eq_true hm] at this
   clear xE xK xG xB c2 hm
   subst h0
   go_enter Tryz.func78, Tryz.ntmps78
   go_wp2_with (first
    | (go_at_call 89; refine (c1 _).mono ?_; rintro e w1 ⟨rfl, hb⟩; have hB := below_box hb; obtain ⟨⟨q0, q1, q2⟩, f0, f1, f2⟩ := ((box3_new _ _ _ _ _).below hb).alloc (.cells #[.int .i64 K, .int .i64 G, .string B] 63); replace hB := hB.alloc hB.size (.cells #[.int .i64 K, .int .i64 G, .string B] 63); clear hb)
    | (go_at_call 90; refine (hd _ hB).mono ?_; rintro e w2 ⟨rfl, rfl⟩))
   obtain ⟨z0, z1, z2⟩ := set3_cells (v0 := .int .i64 K) (v1 := .int .i64 G) (v2 := .string B) q0 q1 q2
   exact bodyPost_ret (v := .tuple #[.agg #[.int .i64 K, .int .i64 G, .string B], .int .i64 0]) (by simp [results, Tryz.results78, go_sem, z0, z1, z2]) rfl ⟨rfl, below_set3 hB (Nat.le_refl _)⟩
  ·
   rw [if_neg hm] at xE
   rw [xE] at xK xG xB ⊢
   rw [show rK = 0 from xK, show rG = 0 from xG, show rB = ⟨#[]⟩ from xB]
   have hd : ∀ W, Below w.heap.size w W → Calls Tryz.prog 90 #[.slice a n c, .int .i64 K] W fun e w' => e = .returned (.bool false) ∧ W = w' := by
    intro W hW; have := c2 W hW; rwa [decide_eq_false hm] at this
   clear xE xK xG xB c2 hm
   subst h0
   go_enter Tryz.func78, Tryz.ntmps78
   go_wp2_with (first
    | (go_at_call 89; refine (c1 _).mono ?_; rintro e w1 ⟨rfl, hb⟩; have hB := below_box hb; obtain ⟨⟨q0, q1, q2⟩, f0, f1, f2⟩ := ((box3_new _ _ _ _ _).below hb).alloc (.cells #[.int .i64 K, .int .i64 G, .string B] 63); replace hB := hB.alloc hB.size (.cells #[.int .i64 K, .int .i64 G, .string B] 63); clear hb)
    | (go_at_call 90; refine (hd _ hB).mono ?_; rintro e w2 ⟨rfl, rfl⟩))
   obtain ⟨z0, z1, z2⟩ := set3_cells (v0 := .int .i64 0) (v1 := .int .i64 0) (v2 := .string ⟨#[]⟩) q0 q1 q2
   exact bodyPost_ret (v := .tuple #[.agg #[.int .i64 0, .int .i64 0, .string ⟨#[]⟩], .int .i64 40]) (by simp [results, Tryz.results78, go_sem, z0, z1, z2]) rfl ⟨rfl, below_set3 hB (Nat.le_refl _)⟩
 ·
  rw [if_neg h0] at xE
  rw [if_neg (by rw [xE]; exact h0)] at xK xG xB
  rw [xK, xG, xB, xE]
  clear xE xK xG xB c2
  have h0' : (E == 0) = false := by simpa using h0
  go_enter Tryz.func78, Tryz.ntmps78
  go_wp2_with (first
   | (go_at_call 89; refine (c1 _).mono ?_; rintro e w1 ⟨rfl, hb⟩; have hB := below_box hb; obtain ⟨⟨q0, q1, q2⟩, f0, f1, f2⟩ := ((box3_new _ _ _ _ _).below hb).alloc (.cells #[.int .i64 K, .int .i64 G, .string B] 63); replace hB := hB.alloc hB.size (.cells #[.int .i64 K, .int .i64 G, .string B] 63); clear hb))
  obtain ⟨z0, z1, z2⟩ := set3_cells (v0 := .int .i64 0) (v1 := .int .i64 0) (v2 := .string ⟨#[]⟩) q0 q1 q2
  exact bodyPost_ret (v := .tuple #[.agg #[.int .i64 0, .int .i64 0, .string ⟨#[]⟩], .int .i64 E]) (by simp [results, Tryz.results78, go_sem, z0, z1, z2]) rfl ⟨rfl, below_set3 hB (Nat.le_refl _)⟩
theorem isI_pair (W : World) (m n : Int) : IsI (W.alloc (.cells #[.int .i64 m, .int .i64 n] 3)) (some ⟨W.heap.size, 0, none⟩) 2 [m, n] := by
 refine ⟨Nat.le_refl _, by decide, fun j x hx => ⟨W.heap.size, 0, rfl, by simp, ?_⟩⟩
 match j, hx with
 | 0, hx => simp at hx; subst hx; exact World.cell?_alloc_at _ _ _ _ rfl
 | 1, hx => simp at hx; subst hx; exact World.cell?_alloc_at _ _ _ _ rfl
theorem gE_kind {K : Int} {s : ByteArray} (h : ¬ K ∈ [(1 : Int), 2]) : gE K s = 81 := by
 unfold gE nodeR
 simp at h
 rw [if_neg h.1, if_neg h.2]
theorem pageN_want (s : ByteArray) (gen : Int) (rt : Bool) : pageN s gen rt = if wantE s [1, 2] = 0 ∧ wantG s [1, 2] ≤ gen ∧ gE (wantK s [1, 2]) (wantB s [1, 2]) = 0 ∧ rightN (gN (wantK s [1, 2]) (wantB s [1, 2])).1 (gN (wantK s [1, 2]) (wantB s [1, 2])).2.1 (gN (wantK s [1, 2]) (wantB s [1, 2])).2.2.1 (gN (wantK s [1, 2]) (wantB s [1, 2])).2.2.2 rt = true then some (gN (wantK s [1, 2]) (wantB s [1, 2])) else none := by
 by_cases h0 : readE s = 0
 ·
  by_cases h1 : readK s ∈ [(1 : Int), 2]
  ·
   have hE : wantE s [1, 2] = 0 := by unfold wantE; rw [if_pos h0, if_pos h1]
   have hK : wantK s [1, 2] = readK s := by unfold wantK; rw [if_pos hE]
   have hG : wantG s [1, 2] = readG s := by unfold wantG; rw [if_pos hE]
   have hB : wantB s [1, 2] = readB s := by unfold wantB; rw [if_pos hE]
   rw [hE, hK, hG, hB]
   unfold pageN
   rw [h0]
  ·
   have hE : wantE s [1, 2] = 40 := by unfold wantE; rw [if_pos h0, if_neg h1]
   unfold pageN
   rw [if_neg (fun h => by rw [gE_kind h1] at h; exact absurd h.2.2.1 (by decide)), if_neg (fun h => by rw [hE] at h; exact absurd h.1 (by decide))]
 ·
  have hE : wantE s [1, 2] = readE s := by unfold wantE; rw [if_neg h0]
  unfold pageN
  rw [if_neg (fun h => h0 h.1), if_neg (fun h => h0 (by rw [← hE]; exact h.1))]
theorem wantB_few (s : ByteArray) (ms : List Int) : (wantB s ms).size ≤ maxLen := by
 unfold wantB
 split
 ·
  exact Nat.le_trans (readB_few s) (by unfold maxLen; omega)
 ·
  exact Nat.zero_le _
set_option maxRecDepth 20000 in
set_option maxHeartbeats 4000000 in
theorem load_any (h : Nat) (a a' b : Option Addr) (n c n' c' p f : Nat) (ns : List Bool) (ps : List ByteArray) (root gen block : Int) (rt : Bool) (V : World) (hn' : n' = ns.length) (hp : p = ps.length) (hpn : p = n') (BV : WoodBox V h (.slice a n c) (.slice a' n' c') (.slice b p f) (.int .i64 root) (.int .i64 gen)) (hB' : IsB V a' c' ns) (hP : IsS V b f ps) :
  Calls Tryz.prog 63 #[.pointer (some ⟨h, 0, none⟩), .int .i64 block, .bool rt] V fun x V' => LoadC V x V' true (holdsS ns ps gen block rt) := by
 obtain ⟨W, hW⟩ : ∃ W, W = V.alloc (.cells #[.bool false, .slice none 0 0, .slice none 0 0, .slice none 0 0] 76) := ⟨_, rfl⟩
 have HB : Below V.heap.size V W := by rw [hW]; exact (Below.refl _ _).alloc (Nat.le_refl _) _
 have BR : Box4 W V.heap.size (.bool false) (.slice none 0 0) (.slice none 0 0) (.slice none 0 0) := by rw [hW]; exact box4_new _ _ _ _ _ _ rfl
 have BW := BV.below HB
 have mn : n' ≤ 9223372036854775807 := by rw [hn']; exact Nat.le_trans hB'.1 hB'.2.1
 have cB0 : ∀ U, Calls Tryz.prog 45 #[.agg #[.slice a n c, .slice a' n' c', .slice b p f, .int .i64 root, .int .i64 gen], .int .i64 block] U fun e w' => e = .returned (.bool (decide (10 ≤ block) && decide (block < (n' : Int)))) ∧ Below U.heap.size U w' := fun U => behind_any a a' b n c n' c' p f root gen block U mn
 obtain ⟨O, hO'⟩ : ∃ O, O = holdsS ns ps gen block rt := ⟨_, rfl⟩
 rw [← hO']
 obtain ⟨⟨r0, r1, r2, r3⟩, f0, f1, f2, f3⟩ := id (hW ▸ BR)
 obtain ⟨x0, x1, x2, x3, x4⟩ := id (hW ▸ BW)
 by_cases hin : 10 ≤ block ∧ block < n'
 ·
  have cB : ∀ U, Calls Tryz.prog 45 #[.agg #[.slice a n c, .slice a' n' c', .slice b p f, .int .i64 root, .int .i64 gen], .int .i64 block] U fun e w' => e = .returned (.bool true) ∧ Below U.heap.size U w' := fun U => by have := cB0 U; rw [decide_eq_true hin.1, decide_eq_true hin.2] at this; exact this
  obtain ⟨h10, hl1⟩ := hin
  obtain ⟨i, rfl⟩ : ∃ i : Nat, block = i := ⟨block.toNat, by omega⟩
  have hi1 : i < ns.length := by omega
  have hi2 : i < ps.length := by omega
  obtain ⟨nw, hgn⟩ : ∃ s, ns[i]? = some s := ⟨_, List.getElem?_eq_getElem hi1⟩
  obtain ⟨s, hs⟩ : ∃ s, ps[i]? = some s := ⟨_, List.getElem?_eq_getElem hi2⟩
  have hO1 : O = if nw = true then pageN s gen rt else none := by
   rw [hO']
   unfold holdsS
   simp only [Int.toNat_natCast, List.getD_eq_getElem?_getD, hgn, hs, Option.getD_some]
   by_cases hh : nw = true
   ·
    rw [if_pos ⟨h10, by omega, by omega, hh⟩, if_pos hh]
   ·
    rw [if_neg (fun x => hh x.2.2.2), if_neg hh]
  obtain ⟨b1, o1, rfl, hlb1, hc1⟩ := hB'.2.2 i nw hgn
  obtain ⟨b2, o2, rfl, hlb2, hc2, hss⟩ := hP.2.2 i s hs
  have z1 := cell_below HB hc1
  have z2 := cell_below HB hc2
  have k4 : (i : Int) < n' := by omega
  have k5 : (i : Int) < p := by omega
  have cW0 := fun U => want_any s (some ⟨U.heap.size, 0, none⟩) 2 [1, 2] (U.alloc (.cells #[.int .i64 1, .int .i64 2] 3)) hss (isI_pair U 1 2)
  have cG := fun U => nodeGet_any (wantK s [1, 2]) (wantB s [1, 2]) U (wantB_few s _)
  rw [pageN_want] at hO1
  clear hO' hn' hp hpn hB' hP h10 hl1 hi1 hi2 hgn hs hlb1 hlb2 hc1 hc2 hss BV cB0
  obtain ⟨rE, hrE⟩ : ∃ x, x = wantE s [1, 2] := ⟨_, rfl⟩
  obtain ⟨rK, hrK⟩ : ∃ x, x = wantK s [1, 2] := ⟨_, rfl⟩
  obtain ⟨rG, hrG⟩ : ∃ x, x = wantG s [1, 2] := ⟨_, rfl⟩
  obtain ⟨rB, hrB⟩ : ∃ x, x = wantB s [1, 2] := ⟨_, rfl⟩
  rw [← hrE, ← hrK, ← hrG, ← hrB] at hO1
  rw [← hrE, ← hrK, ← hrG, ← hrB] at cW0
  rw [← hrK, ← hrB] at cG
  clear hrE hrK hrG hrB
  have cW : ∀ U, Calls Tryz.prog 78 #[.string s, .slice (some ⟨U.heap.size, 0, none⟩) 2 2] (U.alloc (.cells #[.int .i64 1, .int .i64 2] 3)) fun e w' => e = .returned (.tuple #[.agg #[.int .i64 rK, .int .i64 rG, .string rB], .int .i64 rE]) ∧ Below U.heap.size U w' := fun U => (cW0 U).mono fun e w' h => ⟨h.1, Below.tr ((Below.refl _ _).alloc (Nat.le_refl _) _) h.2⟩
  clear cW0
  obtain ⟨nE, hnE⟩ : ∃ x, x = gE rK rB := ⟨_, rfl⟩
  obtain ⟨⟨nl, nk, nv, nc⟩, hnd⟩ : ∃ x, x = gN rK rB := ⟨_, rfl⟩
  rw [← hnE, ← hnd] at hO1 cG
  clear hnE hnd
  have cR : ∀ U a1 d1 k1 a2 d2 k2 a3 d3 k3, k1 = nk.length → k2 = nv.length → k3 = nc.length → IsS U a1 d1 nk → IsS U a2 d2 nv → IsI U a3 d3 nc → Calls Tryz.prog 80 #[.agg #[.bool nl, .slice a1 k1 d1, .slice a2 k2 d2, .slice a3 k3 d3], .bool rt] U fun e w' => e = .returned (.bool (rightN nl nk nv nc rt)) ∧ Below U.heap.size U w' := fun U a1 d1 k1 a2 d2 k2 a3 d3 k3 h1 h2 h3 i1 i2 i3 => nodeRight_any nl a1 a2 a3 d1 d2 d3 k1 k2 k3 nk nv nc rt U h1 h2 h3 i1 i2 i3
  cases nw with
  | false =>
   replace hO1 : O = none := hO1
   clear cW cG cR
   go_enter Tryz.func63, Tryz.ntmps63
   go_wp2_with (
    (go_at_call 45; rw [← hW]; refine (cB _).mono ?_; rintro y w1 ⟨rfl, hb⟩; replace HB := Below.tr HB hb; replace BR := BR.below hb; replace BW := BW.below hb; replace z1 := cell_below hb z1; replace z2 := cell_below hb z2; clear r0 r1 r2 r3 f0 f1 f2 f3 x0 x1 x2 x3 x4; obtain ⟨⟨r0, r1, r2, r3⟩, f0, f1, f2, f3⟩ := id BR; obtain ⟨x0, x1, x2, x3, x4⟩ := id BW; clear hb))
   refine bodyPost_ret (v := .tuple #[.agg #[.bool false, .slice none 0 0, .slice none 0 0, .slice none 0 0], .int .i64 81]) (by simp [results, Tryz.results63, go_sem, r0, r1, r2, r3]) rfl ?_
   rw [hO1]
   exact answers_none (below_put4 HB (Nat.le_refl _) _ _ _ _)
  | true =>
   replace hO1 : O = _ := hO1.trans (if_pos rfl)
   by_cases hE : rE = 0
   ·
    subst hE
    by_cases hG : rG ≤ gen
    ·
     have hG' : ¬ gen < rG := by omega
     by_cases hNE : nE = 0
     ·
      subst hNE
      cases hR : rightN nl nk nv nc rt with
      | true =>
       replace hO1 : O = some (nl, nk, nv, nc) := by rw [hO1, if_pos ⟨rfl, hG, rfl, hR⟩]
       rw [hR] at cR
       clear hR hG
       go_enter Tryz.func63, Tryz.ntmps63
       go_wp2_with (first
        | (go_at_call 45; rw [← hW]; refine (cB _).mono ?_; rintro y w1 ⟨rfl, hb⟩; replace HB := Below.tr HB hb; replace BR := BR.below hb; replace BW := BW.below hb; replace z1 := cell_below hb z1; replace z2 := cell_below hb z2; clear r0 r1 r2 r3 f0 f1 f2 f3 x0 x1 x2 x3 x4; obtain ⟨⟨r0, r1, r2, r3⟩, f0, f1, f2, f3⟩ := id BR; obtain ⟨x0, x1, x2, x3, x4⟩ := id BW; clear hb)
        | (go_at_call 78; refine (cW _).mono ?_; rintro y w2 ⟨rfl, hb⟩; have hA : Below w2.heap.size w2 (w2.alloc (.cells #[.int .i64 rK, .int .i64 rG, .string rB] 63)) := (Below.refl _ _).alloc (Nat.le_refl _) _; have b3 := box3_new w2 (.int .i64 rK) (.int .i64 rG) (.string rB) 63; replace HB := Below.tr (Below.tr HB hb) hA; replace BR := (BR.below hb).below hA; replace BW := (BW.below hb).below hA; clear z1 z2 r0 r1 r2 r3 f0 f1 f2 f3 x0 x1 x2 x3 x4; obtain ⟨⟨r0, r1, r2, r3⟩, f0, f1, f2, f3⟩ := id BR; obtain ⟨x0, x1, x2, x3, x4⟩ := id BW; obtain ⟨⟨g0, g1, g2⟩, -⟩ := id b3; clear hb hA))
       go_region
       have HU : Below (w2.alloc (.cells #[.int .i64 rK, .int .i64 rG, .string rB] 63)).heap.size (w2.alloc (.cells #[.int .i64 rK, .int .i64 rG, .string rB] 63)) (w2.alloc (.cells #[.int .i64 rK, .int .i64 rG, .string rB] 63)).drew := (Below.refl _ _).drew
       generalize (w2.alloc (.cells #[.int .i64 rK, .int .i64 rG, .string rB] 63)).drew = U at HU ⊢
       replace HB := Below.tr HB HU
       replace BR := BR.below HU
       replace b3 := b3.below HU
       clear r0 r1 r2 r3 f0 f1 f2 f3 x0 x1 x2 x3 x4 g0 g1 g2 BW HU
       obtain ⟨⟨r0, r1, r2, r3⟩, f0, f1, f2, f3⟩ := id BR
       obtain ⟨⟨g0, g1, g2⟩, -⟩ := id b3
       go_wp2_with (first
        | (go_at_call 79; refine (cG _).mono ?_; rintro y w3 ⟨k1, a1, d1, k2, a2, d2, k3, a3, d3, rfl, e1, e2, e3, i1, i2, i3, j1, j2, j3, hb⟩; have hA : Below w3.heap.size w3 (w3.alloc (.cells #[.bool nl, .slice a1 k1 d1, .slice a2 k2 d2, .slice a3 k3 d3] 76)) := (Below.refl _ _).alloc (Nat.le_refl _) _; have b4 := box4_new w3 (.bool nl) (.slice a1 k1 d1) (.slice a2 k2 d2) (.slice a3 k3 d3) 76 rfl; have hlo : V.heap.size + 1 ≤ U.heap.size := (by have := BR.lt; omega); replace HB := Below.tr (Below.tr HB hb) hA; replace BR := (BR.below hb).below hA; clear r0 r1 r2 r3 f0 f1 f2 f3 g0 g1 g2 b3; obtain ⟨⟨r0, r1, r2, r3⟩, f0, f1, f2, f3⟩ := id BR; obtain ⟨⟨m0, m1, m2, m3⟩, -⟩ := id b4; have E : Hid (k1 = nk.length ∧ k2 = nv.length ∧ k3 = nc.length) := ⟨e1, e2, e3⟩; have I : Hid (IsS (w3.alloc (.cells #[.bool nl, .slice a1 k1 d1, .slice a2 k2 d2, .slice a3 k3 d3] 76)) a1 d1 nk ∧ IsS (w3.alloc (.cells #[.bool nl, .slice a1 k1 d1, .slice a2 k2 d2, .slice a3 k3 d3] 76)) a2 d2 nv ∧ IsI (w3.alloc (.cells #[.bool nl, .slice a1 k1 d1, .slice a2 k2 d2, .slice a3 k3 d3] 76)) a3 d3 nc) := ⟨i1.below hA, i2.below hA, i3.below hA⟩; have J : Hid (From (V.heap.size + 1) a1 ∧ From (V.heap.size + 1) a2 ∧ From (V.heap.size + 1) a3) := ⟨j1.mono hlo, j2.mono hlo, j3.mono hlo⟩; clear hb hA hlo e1 e2 e3 i1 i2 i3 j1 j2 j3)
        | (go_at_call 80; refine (cR _ a1 d1 k1 a2 d2 k2 a3 d3 k3 E.out.1 E.out.2.1 E.out.2.2 I.out.1 I.out.2.1 I.out.2.2).mono ?_; rintro y w4 ⟨rfl, hb⟩; replace HB := Below.tr HB hb; replace BR := BR.below hb; replace b4 := b4.below hb; clear r0 r1 r2 r3 f0 f1 f2 f3 m0 m1 m2 m3; obtain ⟨⟨r0, r1, r2, r3⟩, f0, f1, f2, f3⟩ := id BR; obtain ⟨⟨m0, m1, m2, m3⟩, -⟩ := id b4; replace I : Hid (IsS w4 a1 d1 nk ∧ IsS w4 a2 d2 nv ∧ IsI w4 a3 d3 nc) := ⟨I.out.1.below hb, I.out.2.1.below hb, I.out.2.2.below hb⟩; clear hb))
       have T4 := turns_put4 w4 V.heap.size (.bool nl) (.slice a1 k1 d1) (.slice a2 k2 d2) (.slice a3 k3 d3)
       obtain ⟨j1, j2, j3⟩ := J.out
       refine bodyPost_ret (v := .tuple #[.agg #[.bool nl, .slice a1 k1 d1, .slice a2 k2 d2, .slice a3 k3 d3], .int .i64 0]) (by simp [results, Tryz.results63, go_sem, r0, r1, r2, r3]) rfl ?_
       rw [hO1]
       exact ⟨k1, a1, d1, k2, a2, d2, k3, a3, d3, rfl, E.out.1, E.out.2.1, E.out.2.2, I.out.1.turns T4 (fun x hx e => by have := j1 x hx; omega), I.out.2.1.turns T4 (fun x hx e => by have := j2 x hx; omega), I.out.2.2.turns T4 (fun x hx e => by have := j3 x hx; omega), j1.mono (by omega), j2.mono (by omega), j3.mono (by omega), below_put4 HB (Nat.le_refl _) _ _ _ _⟩
      | false =>
       replace hO1 : O = none := by rw [hO1, if_neg (fun h => by rw [hR] at h; exact absurd h.2.2.2 (by decide))]
       rw [hR] at cR
       clear hR hG
       go_enter Tryz.func63, Tryz.ntmps63
       go_wp2_with (first
        | (go_at_call 45; rw [← hW]; refine (cB _).mono ?_; rintro y w1 ⟨rfl, hb⟩; replace HB := Below.tr HB hb; replace BR := BR.below hb; replace BW := BW.below hb; replace z1 := cell_below hb z1; replace z2 := cell_below hb z2; clear r0 r1 r2 r3 f0 f1 f2 f3 x0 x1 x2 x3 x4; obtain ⟨⟨r0, r1, r2, r3⟩, f0, f1, f2, f3⟩ := id BR; obtain ⟨x0, x1, x2, x3, x4⟩ := id BW; clear hb)
        | (go_at_call 78; refine (cW _).mono ?_; rintro y w2 ⟨rfl, hb⟩; have hA : Below w2.heap.size w2 (w2.alloc (.cells #[.int .i64 rK, .int .i64 rG, .string rB] 63)) := (Below.refl _ _).alloc (Nat.le_refl _) _; have b3 := box3_new w2 (.int .i64 rK) (.int .i64 rG) (.string rB) 63; replace HB := Below.tr (Below.tr HB hb) hA; replace BR := (BR.below hb).below hA; replace BW := (BW.below hb).below hA; clear z1 z2 r0 r1 r2 r3 f0 f1 f2 f3 x0 x1 x2 x3 x4; obtain ⟨⟨r0, r1, r2, r3⟩, f0, f1, f2, f3⟩ := id BR; obtain ⟨x0, x1, x2, x3, x4⟩ := id BW; obtain ⟨⟨g0, g1, g2⟩, -⟩ := id b3; clear hb hA))
       go_region
       have HU : Below (w2.alloc (.cells #[.int .i64 rK, .int .i64 rG, .string rB] 63)).heap.size (w2.alloc (.cells #[.int .i64 rK, .int .i64 rG, .string rB] 63)) (w2.alloc (.cells #[.int .i64 rK, .int .i64 rG, .string rB] 63)).drew := (Below.refl _ _).drew
       generalize (w2.alloc (.cells #[.int .i64 rK, .int .i64 rG, .string rB] 63)).drew = U at HU ⊢
       replace HB := Below.tr HB HU
       replace BR := BR.below HU
       replace b3 := b3.below HU
       clear r0 r1 r2 r3 f0 f1 f2 f3 x0 x1 x2 x3 x4 g0 g1 g2 BW HU
       obtain ⟨⟨r0, r1, r2, r3⟩, f0, f1, f2, f3⟩ := id BR
       obtain ⟨⟨g0, g1, g2⟩, -⟩ := id b3
       go_wp2_with (first
        | (go_at_call 79; refine (cG _).mono ?_; rintro y w3 ⟨k1, a1, d1, k2, a2, d2, k3, a3, d3, rfl, e1, e2, e3, i1, i2, i3, j1, j2, j3, hb⟩; have hA : Below w3.heap.size w3 (w3.alloc (.cells #[.bool nl, .slice a1 k1 d1, .slice a2 k2 d2, .slice a3 k3 d3] 76)) := (Below.refl _ _).alloc (Nat.le_refl _) _; have b4 := box4_new w3 (.bool nl) (.slice a1 k1 d1) (.slice a2 k2 d2) (.slice a3 k3 d3) 76 rfl; have hlo : V.heap.size + 1 ≤ U.heap.size := (by have := BR.lt; omega); replace HB := Below.tr (Below.tr HB hb) hA; replace BR := (BR.below hb).below hA; clear r0 r1 r2 r3 f0 f1 f2 f3 g0 g1 g2 b3; obtain ⟨⟨r0, r1, r2, r3⟩, f0, f1, f2, f3⟩ := id BR; obtain ⟨⟨m0, m1, m2, m3⟩, -⟩ := id b4; have E : Hid (k1 = nk.length ∧ k2 = nv.length ∧ k3 = nc.length) := ⟨e1, e2, e3⟩; have I : Hid (IsS (w3.alloc (.cells #[.bool nl, .slice a1 k1 d1, .slice a2 k2 d2, .slice a3 k3 d3] 76)) a1 d1 nk ∧ IsS (w3.alloc (.cells #[.bool nl, .slice a1 k1 d1, .slice a2 k2 d2, .slice a3 k3 d3] 76)) a2 d2 nv ∧ IsI (w3.alloc (.cells #[.bool nl, .slice a1 k1 d1, .slice a2 k2 d2, .slice a3 k3 d3] 76)) a3 d3 nc) := ⟨i1.below hA, i2.below hA, i3.below hA⟩; have J : Hid (From (V.heap.size + 1) a1 ∧ From (V.heap.size + 1) a2 ∧ From (V.heap.size + 1) a3) := ⟨j1.mono hlo, j2.mono hlo, j3.mono hlo⟩; clear hb hA hlo e1 e2 e3 i1 i2 i3 j1 j2 j3)
        | (go_at_call 80; refine (cR _ a1 d1 k1 a2 d2 k2 a3 d3 k3 E.out.1 E.out.2.1 E.out.2.2 I.out.1 I.out.2.1 I.out.2.2).mono ?_; rintro y w4 ⟨rfl, hb⟩; replace HB := Below.tr HB hb; replace BR := BR.below hb; replace b4 := b4.below hb; clear r0 r1 r2 r3 f0 f1 f2 f3 m0 m1 m2 m3; obtain ⟨⟨r0, r1, r2, r3⟩, f0, f1, f2, f3⟩ := id BR; obtain ⟨⟨m0, m1, m2, m3⟩, -⟩ := id b4; replace I : Hid (IsS w4 a1 d1 nk ∧ IsS w4 a2 d2 nv ∧ IsI w4 a3 d3 nc) := ⟨I.out.1.below hb, I.out.2.1.below hb, I.out.2.2.below hb⟩; clear hb))
       refine bodyPost_ret (v := .tuple #[.agg #[.bool false, .slice none 0 0, .slice none 0 0, .slice none 0 0], .int .i64 81]) (by simp [results, Tryz.results63, go_sem, r0, r1, r2, r3]) rfl ?_
       rw [hO1]
       exact answers_none (below_put4 HB (Nat.le_refl _) _ _ _ _)
     ·
      have hNE' : (nE != 0) = true := by simpa using hNE
      replace hO1 : O = none := by rw [hO1, if_neg (fun h => hNE h.2.2.1)]
      clear hG
      go_enter Tryz.func63, Tryz.ntmps63
      go_wp2_with (first
       | (go_at_call 45; rw [← hW]; refine (cB _).mono ?_; rintro y w1 ⟨rfl, hb⟩; replace HB := Below.tr HB hb; replace BR := BR.below hb; replace BW := BW.below hb; replace z1 := cell_below hb z1; replace z2 := cell_below hb z2; clear r0 r1 r2 r3 f0 f1 f2 f3 x0 x1 x2 x3 x4; obtain ⟨⟨r0, r1, r2, r3⟩, f0, f1, f2, f3⟩ := id BR; obtain ⟨x0, x1, x2, x3, x4⟩ := id BW; clear hb)
       | (go_at_call 78; refine (cW _).mono ?_; rintro y w2 ⟨rfl, hb⟩; have hA : Below w2.heap.size w2 (w2.alloc (.cells #[.int .i64 rK, .int .i64 rG, .string rB] 63)) := (Below.refl _ _).alloc (Nat.le_refl _) _; have b3 := box3_new w2 (.int .i64 rK) (.int .i64 rG) (.string rB) 63; replace HB := Below.tr (Below.tr HB hb) hA; replace BR := (BR.below hb).below hA; replace BW := (BW.below hb).below hA; clear z1 z2 r0 r1 r2 r3 f0 f1 f2 f3 x0 x1 x2 x3 x4; obtain ⟨⟨r0, r1, r2, r3⟩, f0, f1, f2, f3⟩ := id BR; obtain ⟨x0, x1, x2, x3, x4⟩ := id BW; obtain ⟨⟨g0, g1, g2⟩, -⟩ := id b3; clear hb hA))
      go_region
      have HU : Below (w2.alloc (.cells #[.int .i64 rK, .int .i64 rG, .string rB] 63)).heap.size (w2.alloc (.cells #[.int .i64 rK, .int .i64 rG, .string rB] 63)) (w2.alloc (.cells #[.int .i64 rK, .int .i64 rG, .string rB] 63)).drew := (Below.refl _ _).drew
      generalize (w2.alloc (.cells #[.int .i64 rK, .int .i64 rG, .string rB] 63)).drew = U at HU ⊢
      replace HB := Below.tr HB HU
      replace BR := BR.below HU
      replace b3 := b3.below HU
      clear r0 r1 r2 r3 f0 f1 f2 f3 x0 x1 x2 x3 x4 g0 g1 g2 BW HU
      obtain ⟨⟨r0, r1, r2, r3⟩, f0, f1, f2, f3⟩ := id BR
      obtain ⟨⟨g0, g1, g2⟩, -⟩ := id b3
      go_wp2_with (
       (go_at_call 79; refine (cG _).mono ?_; rintro y w3 ⟨k1, a1, d1, k2, a2, d2, k3, a3, d3, rfl, e1, e2, e3, i1, i2, i3, j1, j2, j3, hb⟩; have hA : Below w3.heap.size w3 (w3.alloc (.cells #[.bool nl, .slice a1 k1 d1, .slice a2 k2 d2, .slice a3 k3 d3] 76)) := (Below.refl _ _).alloc (Nat.le_refl _) _; have b4 := box4_new w3 (.bool nl) (.slice a1 k1 d1) (.slice a2 k2 d2) (.slice a3 k3 d3) 76 rfl; have hlo : V.heap.size + 1 ≤ U.heap.size := (by have := BR.lt; omega); replace HB := Below.tr (Below.tr HB hb) hA; replace BR := (BR.below hb).below hA; clear r0 r1 r2 r3 f0 f1 f2 f3 g0 g1 g2 b3; obtain ⟨⟨r0, r1, r2, r3⟩, f0, f1, f2, f3⟩ := id BR; obtain ⟨⟨m0, m1, m2, m3⟩, -⟩ := id b4; have E : Hid (k1 = nk.length ∧ k2 = nv.length ∧ k3 = nc.length) := ⟨e1, e2, e3⟩; have I : Hid (IsS (w3.alloc (.cells #[.bool nl, .slice a1 k1 d1, .slice a2 k2 d2, .slice a3 k3 d3] 76)) a1 d1 nk ∧ IsS (w3.alloc (.cells #[.bool nl, .slice a1 k1 d1, .slice a2 k2 d2, .slice a3 k3 d3] 76)) a2 d2 nv ∧ IsI (w3.alloc (.cells #[.bool nl, .slice a1 k1 d1, .slice a2 k2 d2, .slice a3 k3 d3] 76)) a3 d3 nc) := ⟨i1.below hA, i2.below hA, i3.below hA⟩; have J : Hid (From (V.heap.size + 1) a1 ∧ From (V.heap.size + 1) a2 ∧ From (V.heap.size + 1) a3) := ⟨j1.mono hlo, j2.mono hlo, j3.mono hlo⟩; clear hb hA hlo e1 e2 e3 i1 i2 i3 j1 j2 j3))
      refine bodyPost_ret (v := .tuple #[.agg #[.bool false, .slice none 0 0, .slice none 0 0, .slice none 0 0], .int .i64 81]) (by simp [results, Tryz.results63, go_sem, r0, r1, r2, r3]) rfl ?_
      rw [hO1]
      exact answers_none (below_put4 HB (Nat.le_refl _) _ _ _ _)
    ·
     have hG' : gen < rG := by omega
     replace hO1 : O = none := by rw [hO1, if_neg (fun h => hG h.2.1)]
     clear hG cG cR
     go_enter Tryz.func63, Tryz.ntmps63
     go_wp2_with (first
      | (go_at_call 45; rw [← hW]; refine (cB _).mono ?_; rintro y w1 ⟨rfl, hb⟩; replace HB := Below.tr HB hb; replace BR := BR.below hb; replace BW := BW.below hb; replace z1 := cell_below hb z1; replace z2 := cell_below hb z2; clear r0 r1 r2 r3 f0 f1 f2 f3 x0 x1 x2 x3 x4; obtain ⟨⟨r0, r1, r2, r3⟩, f0, f1, f2, f3⟩ := id BR; obtain ⟨x0, x1, x2, x3, x4⟩ := id BW; clear hb)
      | (go_at_call 78; refine (cW _).mono ?_; rintro y w2 ⟨rfl, hb⟩; have hA : Below w2.heap.size w2 (w2.alloc (.cells #[.int .i64 rK, .int .i64 rG, .string rB] 63)) := (Below.refl _ _).alloc (Nat.le_refl _) _; have b3 := box3_new w2 (.int .i64 rK) (.int .i64 rG) (.string rB) 63; replace HB := Below.tr (Below.tr HB hb) hA; replace BR := (BR.below hb).below hA; replace BW := (BW.below hb).below hA; clear z1 z2 r0 r1 r2 r3 f0 f1 f2 f3 x0 x1 x2 x3 x4; obtain ⟨⟨r0, r1, r2, r3⟩, f0, f1, f2, f3⟩ := id BR; obtain ⟨x0, x1, x2, x3, x4⟩ := id BW; obtain ⟨⟨g0, g1, g2⟩, -⟩ := id b3; clear hb hA))
     go_region
     have HU : Below (w2.alloc (.cells #[.int .i64 rK, .int .i64 rG, .string rB] 63)).heap.size (w2.alloc (.cells #[.int .i64 rK, .int .i64 rG, .string rB] 63)) (w2.alloc (.cells #[.int .i64 rK, .int .i64 rG, .string rB] 63)).drew := (Below.refl _ _).drew
     generalize (w2.alloc (.cells #[.int .i64 rK, .int .i64 rG, .string rB] 63)).drew = U at HU ⊢
     replace HB := Below.tr HB HU
     replace BR := BR.below HU
     replace b3 := b3.below HU
     clear r0 r1 r2 r3 f0 f1 f2 f3 x0 x1 x2 x3 x4 g0 g1 g2 BW HU
     obtain ⟨⟨r0, r1, r2, r3⟩, f0, f1, f2, f3⟩ := id BR
     obtain ⟨⟨g0, g1, g2⟩, -⟩ := id b3
     go_wp2
     refine bodyPost_ret (v := .tuple #[.agg #[.bool false, .slice none 0 0, .slice none 0 0, .slice none 0 0], .int .i64 81]) (by simp [results, Tryz.results63, go_sem, r0, r1, r2, r3]) rfl ?_
     rw [hO1]
     exact answers_none (below_put4 HB (Nat.le_refl _) _ _ _ _)
   ·
    have hE' : (rE != 0) = true := by simpa using hE
    replace hO1 : O = none := by rw [hO1, if_neg (fun h => hE h.1)]
    clear cG cR
    go_enter Tryz.func63, Tryz.ntmps63
    go_wp2_with (first
     | (go_at_call 45; rw [← hW]; refine (cB _).mono ?_; rintro y w1 ⟨rfl, hb⟩; replace HB := Below.tr HB hb; replace BR := BR.below hb; replace BW := BW.below hb; replace z1 := cell_below hb z1; replace z2 := cell_below hb z2; clear r0 r1 r2 r3 f0 f1 f2 f3 x0 x1 x2 x3 x4; obtain ⟨⟨r0, r1, r2, r3⟩, f0, f1, f2, f3⟩ := id BR; obtain ⟨x0, x1, x2, x3, x4⟩ := id BW; clear hb)
     | (go_at_call 78; refine (cW _).mono ?_; rintro y w2 ⟨rfl, hb⟩; have hA : Below w2.heap.size w2 (w2.alloc (.cells #[.int .i64 rK, .int .i64 rG, .string rB] 63)) := (Below.refl _ _).alloc (Nat.le_refl _) _; have b3 := box3_new w2 (.int .i64 rK) (.int .i64 rG) (.string rB) 63; replace HB := Below.tr (Below.tr HB hb) hA; replace BR := (BR.below hb).below hA; replace BW := (BW.below hb).below hA; clear z1 z2 r0 r1 r2 r3 f0 f1 f2 f3 x0 x1 x2 x3 x4; obtain ⟨⟨r0, r1, r2, r3⟩, f0, f1, f2, f3⟩ := id BR; obtain ⟨x0, x1, x2, x3, x4⟩ := id BW; obtain ⟨⟨g0, g1, g2⟩, -⟩ := id b3; clear hb hA))
    go_region
    have HU : Below (w2.alloc (.cells #[.int .i64 rK, .int .i64 rG, .string rB] 63)).heap.size (w2.alloc (.cells #[.int .i64 rK, .int .i64 rG, .string rB] 63)) (w2.alloc (.cells #[.int .i64 rK, .int .i64 rG, .string rB] 63)).drew := (Below.refl _ _).drew
    generalize (w2.alloc (.cells #[.int .i64 rK, .int .i64 rG, .string rB] 63)).drew = U at HU ⊢
    replace HB := Below.tr HB HU
    replace BR := BR.below HU
    replace b3 := b3.below HU
    clear r0 r1 r2 r3 f0 f1 f2 f3 x0 x1 x2 x3 x4 g0 g1 g2 BW HU
    obtain ⟨⟨r0, r1, r2, r3⟩, f0, f1, f2, f3⟩ := id BR
    obtain ⟨⟨g0, g1, g2⟩, -⟩ := id b3
    go_wp2
    refine bodyPost_ret (v := .tuple #[.agg #[.bool false, .slice none 0 0, .slice none 0 0, .slice none 0 0], .int .i64 81]) (by simp [results, Tryz.results63, go_sem, r0, r1, r2, r3]) rfl ?_
    rw [hO1]
    exact answers_none (below_put4 HB (Nat.le_refl _) _ _ _ _)
 ·
  have cB : ∀ U, Calls Tryz.prog 45 #[.agg #[.slice a n c, .slice a' n' c', .slice b p f, .int .i64 root, .int .i64 gen], .int .i64 block] U fun e w' => e = .returned (.bool false) ∧ Below U.heap.size U w' := fun U => by
   have := cB0 U
   have hh : (decide (10 ≤ block) && decide (block < (n' : Int))) = false := by
    rw [Bool.and_eq_false_iff, decide_eq_false_iff_not, decide_eq_false_iff_not]
    by_cases h10 : 10 ≤ block
    ·
     exact .inr fun h => hin ⟨h10, h⟩
    ·
     exact .inl h10
   rw [hh] at this
   exact this
  have hO1 : O = none := by
   rw [hO']
   unfold holdsS
   rw [if_neg (fun h => hin ⟨h.1, by omega⟩)]
  have z1 : True := trivial
  have z2 : True := trivial
  clear hO' hn' hp hpn hB' hP BV cB0 hin
  go_enter Tryz.func63, Tryz.ntmps63
  go_wp2_with (go_at_call 45; rw [← hW]; refine (cB _).mono ?_; rintro y w1 ⟨rfl, hb⟩; replace HB := Below.tr HB hb; replace BR := BR.below hb; replace BW := BW.below hb; clear r0 r1 r2 r3 f0 f1 f2 f3 x0 x1 x2 x3 x4; obtain ⟨⟨r0, r1, r2, r3⟩, f0, f1, f2, f3⟩ := id BR; obtain ⟨x0, x1, x2, x3, x4⟩ := id BW; clear hb)
  refine bodyPost_ret (v := .tuple #[.agg #[.bool false, .slice none 0 0, .slice none 0 0, .slice none 0 0], .int .i64 81]) (by simp [results, Tryz.results63, go_sem, r0, r1, r2, r3]) rfl ?_
  rw [hO1]
  exact answers_none (below_put4 HB (Nat.le_refl _) _ _ _ _)
def nodeO : Option NodeS → NodeS
 | none => (false, [], [], [])
 | some nd => nd
def errO : Option NodeS → Int
 | none => 81
 | some _ => 0
theorem loadC_true (V : World) (x : Ending) (V' : World) (O : Option NodeS) : LoadC V x V' true O ↔ Answers V x V' (nodeO O).1 (nodeO O).2.1 (nodeO O).2.2.1 (nodeO O).2.2.2 (errO O) := by
 unfold LoadC
 rw [if_pos rfl]
 cases O <;> exact Iff.rfl
def WalkBox (V : World) (h : Nat) (v0 v1 v2 v3 v4 : Value) (lv : Int) : Prop := WoodBox V h v0 v1 v2 v3 v4 ∧ V.cell? ⟨h, 5, none⟩ = some (.int .i64 lv) ∧ V.frozen? ⟨h, 5, none⟩ = false
theorem walkBox_new (w : World) (v0 v1 v2 v3 v4 : Value) (lv : Int) (t : TypeId) {h : Nat} (hh : h = w.heap.size) : WalkBox (w.alloc (.cells #[v0, v1, v2, v3, v4, .int .i64 lv] t)) h v0 v1 v2 v3 v4 lv := by
 subst hh
 refine ⟨⟨World.cell?_alloc_at _ _ _ _ rfl, World.cell?_alloc_at _ _ _ _ rfl, World.cell?_alloc_at _ _ _ _ rfl, World.cell?_alloc_at _ _ _ _ rfl, World.cell?_alloc_at _ _ _ _ rfl⟩, World.cell?_alloc_at _ _ _ _ rfl, ?_⟩
 exact (World.frozen?_alloc_mark w _ _ _ _ 5).trans (by simp)
theorem WalkBox.below {V V' : World} {h : Nat} {v0 v1 v2 v3 v4 : Value} {lv : Int} (b : WalkBox V h v0 v1 v2 v3 v4 lv) (hb : Below V.heap.size V V') : WalkBox V' h v0 v1 v2 v3 v4 lv :=
 ⟨b.1.below hb, cell_below hb b.2.1, by rw [hb.frozen (p := ⟨h, 5, none⟩) (cell_lt b.2.1)]; exact b.2.2⟩
theorem rightW_len {bs ns : List Bool} {ps : List ByteArray} {root gen : Int} (h : rightW bs ns ps root gen = true) : ps.length = ns.length := by
 unfold rightW at h
 simp only [Bool.and_eq_true, decide_eq_true_eq] at h
 exact h.1.1.1.1.2
set_option maxRecDepth 20000 in
set_option maxHeartbeats 4000000 in
theorem lookLoad_any (a a' b : Option Addr) (n c n' c' p f : Nat) (bs ns : List Bool) (ps : List ByteArray) (root gen block : Int) (rt : Bool) (w : World) (hn : n = bs.length) (hn' : n' = ns.length) (hp : p = ps.length) (hB : IsB w a c bs) (hB' : IsB w a' c' ns) (hP : IsS w b f ps) :
  Calls Tryz.prog 69 #[.agg #[.slice a n c, .slice a' n' c', .slice b p f, .int .i64 root, .int .i64 gen], .int .i64 block, .bool rt] w fun x w' => LoadC w x w' (rightW bs ns ps root gen) (holdsS ns ps gen block rt) := by
 obtain ⟨W, hW⟩ : ∃ W, W = (w.alloc (.cells #[.slice a n c, .slice a' n' c', .slice b p f, .int .i64 root, .int .i64 gen] 27)).alloc (.cells #[.bool false, .slice none 0 0, .slice none 0 0, .slice none 0 0] 76) := ⟨_, rfl⟩
 have BW : WoodBox W w.heap.size (.slice a n c) (.slice a' n' c') (.slice b p f) (.int .i64 root) (.int .i64 gen) := by rw [hW]; exact (woodBox_new _ _ _ _ _ _ _ rfl).below ((Below.refl _ _).alloc (Nat.le_refl _) _)
 have BR : Box4 W (w.heap.size + 1) (.bool false) (.slice none 0 0) (.slice none 0 0) (.slice none 0 0) := by rw [hW]; exact box4_new _ _ _ _ _ _ (by simp)
 have HB : Below w.heap.size w W := by rw [hW]; exact ((Below.refl _ _).alloc (Nat.le_refl _) _).alloc (by simp) _
 have cR := lookRight_any a a' b n c n' c' p f bs ns ps root gen W hn hn' hp (hB.below HB) (hB'.below HB) (hP.below HB)
 obtain ⟨⟨r0, r1, r2, r3⟩, f0, f1, f2, f3⟩ := id (hW ▸ BR)
 obtain ⟨x0, x1, x2, x3, x4⟩ := id (hW ▸ BW)
 have hle : w.heap.size ≤ w.heap.size + 1 := by omega
 cases hR : rightW bs ns ps root gen with
 | false =>
  rw [hR] at cR
  clear hn hn' hp hB hB' hP hR
  go_enter Tryz.func69, Tryz.ntmps69
  go_wp2_with (
   (go_at_call 30; rw [← hW]; refine cR.mono ?_; rintro y w1 ⟨rfl, hb⟩; replace HB := Below.tr HB hb; replace BR := BR.below hb; replace BW := BW.below hb; clear r0 r1 r2 r3 f0 f1 f2 f3 x0 x1 x2 x3 x4; obtain ⟨⟨r0, r1, r2, r3⟩, f0, f1, f2, f3⟩ := id BR; obtain ⟨x0, x1, x2, x3, x4⟩ := id BW; clear hb))
  refine bodyPost_ret (v := .tuple #[.agg #[.bool false, .slice none 0 0, .slice none 0 0, .slice none 0 0], .int .i64 1]) (by simp [results, Tryz.results69, go_sem, r0, r1, r2, r3]) rfl ?_
  exact answers_none (below_put4 HB hle _ _ _ _)
 | true =>
  rw [hR] at cR
  have hpn : p = n' := by rw [hp, hn']; exact rightW_len hR
  obtain ⟨O, hO⟩ : ∃ O, O = holdsS ns ps gen block rt := ⟨_, rfl⟩
  rw [← hO]
  simp only [loadC_true]
  obtain ⟨⟨nl, nk, nv, nc⟩, hN⟩ : ∃ x, x = nodeO O := ⟨_, rfl⟩
  obtain ⟨nE, hE⟩ : ∃ x, x = errO O := ⟨_, rfl⟩
  rw [← hN, ← hE]
  have cL : ∀ (h : Nat) U, Below w.heap.size w U → WoodBox U h (.slice a n c) (.slice a' n' c') (.slice b p f) (.int .i64 root) (.int .i64 gen) → Calls Tryz.prog 63 #[.pointer (some ⟨h, 0, none⟩), .int .i64 block, .bool rt] U fun x V' => Answers U x V' nl nk nv nc nE := fun h U hU hb => by
   refine (load_any h a a' b n c n' c' p f ns ps root gen block rt U hn' hp hpn hb (hB'.below hU) (hP.below hU)).mono fun x V' hx => ?_
   rw [← hO, loadC_true, ← hN, ← hE] at hx
   exact hx
  clear hn hn' hp hB hB' hP hR hO hpn hN hE
  go_enter Tryz.func69, Tryz.ntmps69
  go_wp2_with (first
   | (go_at_call 30; rw [← hW]; refine cR.mono ?_; rintro y w1 ⟨rfl, hb⟩; replace HB := Below.tr HB hb; replace BR := BR.below hb; replace BW := BW.below hb; clear r0 r1 r2 r3 f0 f1 f2 f3 x0 x1 x2 x3 x4; obtain ⟨⟨r0, r1, r2, r3⟩, f0, f1, f2, f3⟩ := id BR; obtain ⟨x0, x1, x2, x3, x4⟩ := id BW; clear hb)
   | (go_at_call 63; have hA : Below w1.heap.size w1 (w1.alloc (.cells #[.slice a n c, .slice a' n' c', .slice b p f, .int .i64 root, .int .i64 gen, .int .i64 0] 67)) := (Below.refl _ _).alloc (Nat.le_refl _) _; have BK := walkBox_new w1 (.slice a n c) (.slice a' n' c') (.slice b p f) (.int .i64 root) (.int .i64 gen) 0 67 rfl; refine (cL _ _ (Below.tr HB hA) BK.1).mono ?_; rintro y w2 ⟨k1, a1, d1, k2, a2, d2, k3, a3, d3, rfl, e1, e2, e3, i1, i2, i3, j1, j2, j3, hb⟩; have hlo : w.heap.size + 2 ≤ (w1.alloc (.cells #[.slice a n c, .slice a' n' c', .slice b p f, .int .i64 root, .int .i64 gen, .int .i64 0] 67)).heap.size := (by have := BR.lt; simp; omega); replace HB := Below.tr (Below.tr HB hA) hb; replace BR := (BR.below hA).below hb; clear r0 r1 r2 r3 f0 f1 f2 f3 x0 x1 x2 x3 x4 BW BK; obtain ⟨⟨r0, r1, r2, r3⟩, f0, f1, f2, f3⟩ := id BR; have E : Hid (k1 = nk.length ∧ k2 = nv.length ∧ k3 = nc.length) := ⟨e1, e2, e3⟩; have I : Hid (IsS w2 a1 d1 nk ∧ IsS w2 a2 d2 nv ∧ IsI w2 a3 d3 nc) := ⟨i1, i2, i3⟩; have J : Hid (From (w.heap.size + 2) a1 ∧ From (w.heap.size + 2) a2 ∧ From (w.heap.size + 2) a3) := ⟨j1.mono hlo, j2.mono hlo, j3.mono hlo⟩; clear hb hA hlo e1 e2 e3 i1 i2 i3 j1 j2 j3))
  have T4 := turns_put4 w2 (w.heap.size + 1) (.bool nl) (.slice a1 k1 d1) (.slice a2 k2 d2) (.slice a3 k3 d3)
  obtain ⟨j1, j2, j3⟩ := J.out
  refine bodyPost_ret (v := .tuple #[.agg #[.bool nl, .slice a1 k1 d1, .slice a2 k2 d2, .slice a3 k3 d3], .int .i64 nE]) (by simp [results, Tryz.results69, go_sem, r0, r1, r2, r3]) rfl ?_
  exact ⟨k1, a1, d1, k2, a2, d2, k3, a3, d3, rfl, E.out.1, E.out.2.1, E.out.2.2, I.out.1.turns T4 (fun x hx e => by have := j1 x hx; omega), I.out.2.1.turns T4 (fun x hx e => by have := j2 x hx; omega), I.out.2.2.turns T4 (fun x hx e => by have := j3 x hx; omega), j1.mono (by omega), j2.mono (by omega), j3.mono (by omega), below_put4 HB hle _ _ _ _⟩
set_option maxHeartbeats 2000000 in
set_option maxRecDepth 100000 in
theorem growS_any (n : Nat) (w : World) (h2 : n ≤ 4096) :
  Calls Tryz.prog 103 #[.slice none 0 0, .int .i64 n] w fun e w' => ∃ v, e = .returned v ∧ w'.ownsRow w.heap.size 9 1 v 0 [] ∧ Below w.heap.size w w' := by
 by_cases h0 : n = 0
 ·
  subst h0
  go_enter Tryz.func103, Tryz.ntmps103
  go_wp2
  all_goals (go_ret; exact ⟨_, rfl, World.ownsRow_nil _ _ _ _, Below.refl _ _⟩)
 ·
  have h1 : 1 ≤ n := by omega
  obtain ⟨i0, hi, hz0, hz1, hz2⟩ := info_parts Tryz.info9
  obtain ⟨G, hG⟩ : ∃ G, G = grownCap w n 0 9 := ⟨_, rfl⟩
  obtain ⟨Z, hZ⟩ : ∃ Z, Z = Builtin.zeroCells (Value.string ⟨#[]⟩).cells n ++ Builtin.zeroCells (Value.string ⟨#[]⟩).cells (G - n) := ⟨_, rfl⟩
  have hGn : n ≤ G := by rw [hG]; exact grownCap_ge w _ _ _
  have hGm : G ≤ maxLen := by rw [hG]; exact grownCap_le_maxLen w n 0 _ (by unfold maxLen; omega)
  have hZs : Hid (Z.size = G * 1) := by
   show _ = _
   rw [hZ, Array.size_append]
   have hc : (Value.string ⟨#[]⟩).cells.size = 1 := by rfl
   simp only [Builtin.zeroCells, Array.size_map, Array.size_range, hc]
   omega
  have hrz : ∀ ty, (Builtin.append_ #[25, 3] ty #[.slice none 0 0, .int .i64 n]).run Tryz.prog w = .ok (.slice (some ⟨w.heap.size, 0, none⟩) n G) (w.drew.alloc (.cells Z 9)) := fun ty => by
   have := Lib.run_append_nil_zeros (P := Tryz.prog) w 25 3 ty 9 i0 _ .i64 .i64 Tryz.underlying25 Tryz.underlying3 hi hz0 n (by omega) (by omega) (by omega) (by rw [hz2]; omega)
   rw [← hG, ← hZ] at this
   exact this
  have hG63 : G ≤ 9223372036854775807 := hGm
  have h1' : (1 : Int) ≤ n := by omega
  have h2' : (n : Int) ≤ 4096 := by omega
  clear hZ hG h0
  go_enter Tryz.func103, Tryz.ntmps103
  go_wp2_with (at_builtin; refine Lib.wpList_append_run _ rfl _ _ _ _ rfl _ _ rfl rfl _ _ (hrz _) ?_)
  all_goals (go_ret; exact ⟨_, rfl, ⟨rfl, .inr ⟨w.heap.size, G, Z, rfl, Nat.le_refl _, heap_new w.drew _, Nat.zero_le _, hGm, hZs.out, rfl⟩⟩, (Below.refl _ _).drew.alloc (Nat.le_refl _) _⟩)
set_option maxRecDepth 20000 in
set_option maxHeartbeats 2000000 in
theorem concatS_any (H k n : Nat) (rs : List (Option Addr × Nat × List ByteArray)) (w : World) (hR : RowsS w H rs) (hk : k = rs.length) (hl : (flatS rs).length ≤ 4096) (hk9 : k ≤ 9) (hn : n = (flatS rs).length) :
  Calls Tryz.prog 85 #[.slice (some ⟨H, 0, none⟩) k k] w fun e w' => ∃ a c, e = .returned (.slice a n c) ∧ IsS w' a c (flatS rs) ∧ From w.heap.size a ∧ Below w.heap.size w w' := by
 have HR : Hid (RowsS w H rs) := hR
 have HK : Hid (k = rs.length) := hk
 have HL : Hid ((flatS rs).length ≤ 4096) := hl
 have HN : Hid (n = (flatS rs).length) := hn
 have hn4 : n ≤ 4096 := by omega
 have cG := growS_any n w hn4
 clear hR hk hl hn
 go_enter Tryz.func85, Tryz.ntmps85
 go_wp2
 go_loop [3, 11] (fun s i => ∃ (j m : Nat), j ≤ k ∧ i = .int .i64 j ∧ s = .int .i64 m ∧ m = (flatS (rs.take j)).length) (fun _ i => k - (intOf i).toNat)
 case atStart => exact ⟨0, 0, by omega, rfl, rfl, rfl⟩
 case round =>
  obtain ⟨j, m, hj, rfl, rfl, hm⟩ := hrel
  have HM : Hid (m = (flatS (rs.take j)).length) := hm
  clear hm
  by_cases hlt : j < k
  ·
   have hlt' : (j : Int) < k := by omega
   obtain ⟨r, hr⟩ : ∃ r, rs[j]? = some r := ⟨_, List.getElem?_eq_getElem (by rw [← HK.out]; exact hlt)⟩
   obtain ⟨hc, hI⟩ := HR.out j r hr
   obtain ⟨a, c, ys⟩ := r
   have hf := flatS_take hr
   have hle := flatS_le rs (j + 1)
   simp only at hc hI hf
   obtain ⟨y, hy⟩ : ∃ y, y = ys.length := ⟨_, rfl⟩
   rw [← hy] at hc
   have hle2 := HL.out
   have hsum : m + y ≤ 4096 := by rw [hf, List.length_append, ← HM.out, ← hy] at hle; omega
   have hm' : Hid (m + y = (flatS (rs.take (j + 1))).length) := by show _ = _; rw [hf, List.length_append, ← HM.out, ← hy]
   have hs0 : ¬ ((m : Int) + y) < 0 := by omega
   have hs1 : (m : Int) + y ≤ 4096 := by omega
   clear hr hI hf hle hle2 hy
   go_wp2
   go_round
   case rel => exact ⟨j + 1, m + y, by omega, by go_num, by go_num, hm'.out⟩
   case measure => simp [intOf]; omega
  ·
   obtain rfl : j = k := by omega
   have ht : rs.take j = rs := List.take_of_length_le (by rw [← HK.out]; exact Nat.le_refl _)
   have hmn : m = n := by rw [HM.out, ht, HN.out]
   subst hmn
   clear ht HM
   go_wp2_with (go_at_call 103; refine cG.mono ?_; rintro e w1 ⟨v1, rfl, hown1, hb⟩; clear cG)
   go_loopw [6, 27] (fun v i wr => ∃ i0 : Nat, i0 ≤ j ∧ i = .int .i64 i0 ∧ wr.ownsRow w.heap.size 9 1 v (flatS (rs.take i0)).length ((flatS (rs.take i0)).map Value.string) ∧ Below w.heap.size w wr) (fun _ i _ => j - (intOf i).toNat)
   case atStart => exact ⟨0, by omega, rfl, hown1, hb⟩
   case round =>
    obtain ⟨i0, hi0, rfl, hown, hbel⟩ := hrel
    clear hown1 hb
    by_cases hlt2 : i0 < j
    ·
     have hlt2' : (i0 : Int) < j := by omega
     obtain ⟨r, hr⟩ : ∃ r, rs[i0]? = some r := ⟨_, List.getElem?_eq_getElem (by rw [← HK.out]; exact hlt2)⟩
     obtain ⟨hc0, hI⟩ := HR.out i0 r hr
     have hc := cell_below hbel hc0
     obtain ⟨a, c, ys⟩ := r
     have hf := flatS_take hr
     have hle := flatS_le rs (i0 + 1)
     simp only at hc hI hf
     have hle2 := HL.out
     obtain ⟨v', w', hrun, hown', hgr, _⟩ := append_S wr w.heap.size _ _ _ hown hbel.size a c ys.length ys rfl (hI.below hbel) (by rw [hf, List.length_append] at hle; omega)
     have HO : Hid (w'.ownsRow w.heap.size 9 1 v' (flatS (rs.take (i0 + 1))).length ((flatS (rs.take (i0 + 1))).map Value.string)) := by
      show World.ownsRow _ _ _ _ _ _ _
      rw [hf, List.length_append]; exact hown'
     have HB : Hid (Below w.heap.size w w') := hbel.grown hgr hbel.size fun g hg => (hown.lt g hg).1
     clear hown hown' hgr hr hc0 hI hf hle hle2 hbel
     go_wp2_with (at_builtin; refine Lib.wpList_append_run _ rfl _ _ _ _ rfl _ _ rfl rfl _ _ hrun ?_)
     go_roundw
     case rel => exact ⟨i0 + 1, by omega, by go_num, HO.out, HB.out⟩
     case measure => simp [intOf]; omega
    ·
     obtain rfl : i0 = j := by omega
     have ht : rs.take i0 = rs := List.take_of_length_le (by rw [← HK.out]; exact Nat.le_refl _)
     rw [ht] at hown
     obtain ⟨a, c, rfl, hn, hI, hF⟩ := owns_S hown (fun x hx => by
      obtain ⟨r, hr, hx⟩ := List.mem_flatMap.1 hx
      obtain ⟨i, hi⟩ := List.getElem?_of_mem hr
      obtain ⟨q, hq⟩ := List.getElem?_of_mem hx
      obtain ⟨_, _, _, _, _, hs⟩ := (HR.out i r hi).2.2.2 q x hq
      exact hs)
     have HI : Hid (IsS wr a c (flatS rs) ∧ From w.heap.size a) := ⟨hI, hF⟩
     clear hown hI hF hn ht
     rw [← HN.out]
     go_wp2
     go_ret
     exact ⟨a, c, rfl, HI.out.1, HI.out.2, hbel⟩
theorem IsB.turns {P : Nat → Prop} {w w' : World} {a : Option Addr} {c : Nat} {l : List Bool} (h : IsB w a c l) (t : Turns P w w') (hp : ∀ x, a = .some x → ¬ P x.block) : IsB w' a c l := by
 refine ⟨h.1, h.2.1, fun j x hx => ?_⟩
 obtain ⟨b, o, ha, hlt, hc⟩ := h.2.2 j x hx
 exact ⟨b, o, ha, Nat.lt_of_lt_of_le hlt t.size, t.cell (p := ⟨b, o + j, none⟩) (hp ⟨b, o, none⟩ ha) hc⟩
structure RowP (w : World) (q cp : Nat) (l : List ByteArray) : Prop where
 le : l.length ≤ cp
 mx : cp ≤ maxLen
 lt : q < w.heap.size
 at_ : ∀ j s, l[j]? = some s → w.cell? ⟨q, j, none⟩ = some (.string s) ∧ w.frozen? ⟨q, j, none⟩ = false ∧ s.size ≤ maxLen
theorem RowP.isS {w : World} {q cp : Nat} {l : List ByteArray} (h : RowP w q cp l) : IsS w (some ⟨q, 0, none⟩) cp l :=
 ⟨h.le, h.mx, fun j s hs => ⟨q, 0, rfl, h.lt, by rw [Nat.zero_add]; exact (h.at_ j s hs).1, (h.at_ j s hs).2.2⟩⟩
theorem RowP.turns {P : Nat → Prop} {w w' : World} {q cp : Nat} {l : List ByteArray} (h : RowP w q cp l) (t : Turns P w w') (hp : ¬ P q) : RowP w' q cp l :=
 ⟨h.le, h.mx, Nat.lt_of_lt_of_le h.lt t.size, fun j s hs => ⟨t.cell (p := ⟨q, j, none⟩) hp (h.at_ j s hs).1, t.frozen (p := ⟨q, j, none⟩) h.lt hp (h.at_ j s hs).2.1, (h.at_ j s hs).2.2⟩⟩
theorem RowP.set {w : World} {q cp : Nat} {l : List ByteArray} (h : RowP w q cp l) (i : Nat) (s : ByteArray) (hs : s.size ≤ maxLen) : RowP (w.setCell ⟨q, i, none⟩ (.string s)) q cp (l.set i s) := by
 refine ⟨by rw [List.length_set]; exact h.le, h.mx, by simpa using h.lt, fun j x hx => ?_⟩
 rw [List.getElem?_set] at hx
 split at hx
 ·
  rename_i e
  subst e
  split at hx
  ·
   rename_i hl
   cases hx
   obtain ⟨h1, h2, _⟩ := h.at_ i l[i] (List.getElem?_eq_getElem hl)
   exact ⟨World.cell?_setCell_same _ _ _ h1, by rw [World.frozen?_setCell]; exact h2, hs⟩
  ·
   cases hx
 ·
  rename_i e
  obtain ⟨h1, h2, h3⟩ := h.at_ j x hx
  exact ⟨by rw [World.cell?_setCell_other _ _ _ _ (fun hh => e (by cases hh; rfl))]; exact h1, by rw [World.frozen?_setCell]; exact h2, h3⟩
def Off2 (h q : Nat) (a : Option Addr) : Prop := ∀ x, a = some x → x.block ≠ h ∧ x.block ≠ q
theorem off2_nil (h q : Nat) : Off2 h q none := fun x hx => by cases hx
theorem From.off2 {B h q : Nat} {a : Option Addr} (f : From B a) (hh : h < B) (hq : q < B) : Off2 h q a := fun x hx => by have := f x hx; omega
def Mine (h q : Nat) : Nat → Prop := fun k => k = h ∨ k = q
theorem Off2.mine {h q : Nat} {a : Option Addr} (o : Off2 h q a) : ∀ x, a = some x → ¬ Mine h q x.block := fun x hx e => by
 obtain ⟨h1, h2⟩ := o x hx
 rcases e with e | e
 ·
  exact h1 e
 ·
  exact h2 e
def Held (w : World) (a : Option Addr) : Prop := ∀ x, a = some x → x.block < w.heap.size
theorem held_nil (w : World) : Held w none := fun x hx => by cases hx
theorem Held.mono {w w' : World} {a : Option Addr} (h : Held w a) (hs : w.heap.size ≤ w'.heap.size) : Held w' a := fun x hx => Nat.lt_of_lt_of_le (h x hx) hs
def Newer (w : World) (a b : Option Addr) : Prop := b = a ∨ From w.heap.size b
theorem newer_refl (w : World) (a : Option Addr) : Newer w a a := .inl rfl
theorem Newer.trans {w w1 : World} {a b c : Option Addr} (h : Newer w a b) (k : Newer w1 b c) (hs : w.heap.size ≤ w1.heap.size) : Newer w a c := by
 rcases k with rfl | k
 ·
  exact h
 ·
  exact .inr (k.mono hs)
theorem Newer.low {w w1 : World} {a b : Option Addr} (h : Newer w1 a b) (hs : w.heap.size ≤ w1.heap.size) : Newer w a b := (newer_refl w a).trans h hs
theorem Newer.off {w w1 : World} {a b : Option Addr} (h : Newer w1 a b) (l : Held w a) {z : Nat} (h1 : w.heap.size ≤ z) (h2 : z < w1.heap.size) : ∀ x, b = some x → ¬ x.block = z := by
 intro x hx e
 rcases h with rfl | h
 ·
  have := l x hx; omega
 ·
  have := h x hx; omega
theorem Turns.own {P Q : Nat → Prop} {a b c : World} (h : Turns P a b) (k : Turns Q b c) (hQ : ∀ i, i < a.heap.size → Q i → P i) : Turns P a c :=
 ⟨k.os.trans h.os, k.tape.trans h.tape, k.output.trans h.output, Nat.le_trans h.size k.size, fun i hi hp => (k.block i (Nat.lt_of_lt_of_le hi h.size) fun x => hp (hQ i hi x)).trans (h.block i hi hp)⟩
structure GrowAt (V : World) (h q cp : Nat) (a : Option Addr) (c : Nat) (a' : Option Addr) (c' : Nat) (G : WoodS) : Prop where
 box : WoodBox V h (.slice a G.base.length c) (.slice a' G.now.length c') (.slice (some ⟨q, 0, none⟩) G.pages.length cp) (.int .i64 G.root) (.int .i64 G.gen)
 f0 : V.frozen? ⟨h, 0, none⟩ = false
 f1 : V.frozen? ⟨h, 1, none⟩ = false
 f3 : V.frozen? ⟨h, 3, none⟩ = false
 bs : IsB V a c G.base
 ns : IsB V a' c' G.now
 ob : Off2 h q a
 on : Off2 h q a'
 pg : RowP V q cp G.pages
 hq : h ≠ q
 lb : Held V a
 ln : Held V a'
theorem GrowAt.lt {V : World} {h q cp : Nat} {a : Option Addr} {c : Nat} {a' : Option Addr} {c' : Nat} {G : WoodS} (g : GrowAt V h q cp a c a' c' G) : h < V.heap.size := cell_lt g.box.1
theorem GrowAt.turns {P : Nat → Prop} {V V' : World} {h q cp : Nat} {a : Option Addr} {c : Nat} {a' : Option Addr} {c' : Nat} {G : WoodS} (g : GrowAt V h q cp a c a' c' G) (t : Turns P V V') (h1 : ¬ P h) (h2 : ¬ P q) (h3 : ∀ x, a = some x → ¬ P x.block) (h4 : ∀ x, a' = some x → ¬ P x.block) : GrowAt V' h q cp a c a' c' G :=
 ⟨g.box.turns t h1, t.frozen (p := ⟨h, 0, none⟩) g.lt h1 g.f0, t.frozen (p := ⟨h, 1, none⟩) g.lt h1 g.f1, t.frozen (p := ⟨h, 3, none⟩) g.lt h1 g.f3, g.bs.turns t h3, g.ns.turns t h4, g.ob, g.on, g.pg.turns t h2, g.hq, g.lb.mono t.size, g.ln.mono t.size⟩
theorem GrowAt.below {V V' : World} {h q cp : Nat} {a : Option Addr} {c : Nat} {a' : Option Addr} {c' : Nat} {G : WoodS} (g : GrowAt V h q cp a c a' c' G) (hb : Below V.heap.size V V') : GrowAt V' h q cp a c a' c' G :=
 g.turns (P := fun _ => False) (Turns.of_below hb) id id (fun _ _ => id) (fun _ _ => id)
theorem GrowAt.page {V : World} {h q cp : Nat} {a : Option Addr} {c : Nat} {a' : Option Addr} {c' : Nat} {G : WoodS} (g : GrowAt V h q cp a c a' c' G) (i : Nat) (s : ByteArray) (hs : s.size ≤ maxLen) : GrowAt (V.setCell ⟨q, i, none⟩ (.string s)) h q cp a c a' c' (G.withPage i s) ∧ Turns (Mine h q) V (V.setCell ⟨q, i, none⟩ (.string s)) := by
 have t : Turns (fun k => k = q) V (V.setCell ⟨q, i, none⟩ (.string s)) := Turns.setCell (P := fun k => k = q) (Turns.refl _ _) (p := ⟨q, i, none⟩) rfl _
 refine ⟨⟨?_, t.frozen (p := ⟨h, 0, none⟩) g.lt g.hq g.f0, t.frozen (p := ⟨h, 1, none⟩) g.lt g.hq g.f1, t.frozen (p := ⟨h, 3, none⟩) g.lt g.hq g.f3, g.bs.turns t fun x hx => (g.ob x hx).2, g.ns.turns t fun x hx => (g.on x hx).2, g.ob, g.on, g.pg.set i s hs, g.hq, g.lb.mono t.size, g.ln.mono t.size⟩, t.mono fun k hk => .inr hk⟩
 have := g.box.turns t g.hq
 show WoodBox _ _ _ _ (.slice (some ⟨q, 0, none⟩) (G.pages.set i s).length cp) _ _
 rw [List.length_set]
 exact this
theorem GrowAt.alloc2 {V : World} {h q cp : Nat} {a : Option Addr} {c : Nat} {a' : Option Addr} {c' : Nat} {G : WoodS} (g : GrowAt V h q cp a c a' c' G) {d : Option Addr} {e : Nat} {d' : Option Addr} {e' : Nat} {b m : List Bool} (hb : IsB V d e b) (hm : IsB V d' e' m) (od : Off2 h q d) (od' : Off2 h q d') (ld : Held V d) (ld' : Held V d') :
  GrowAt ((V.setCell ⟨h, 0, none⟩ (.slice d b.length e)).setCell ⟨h, 1, none⟩ (.slice d' m.length e')) h q cp d e d' e' (G.withAlloc b m) ∧ Turns (Mine h q) V ((V.setCell ⟨h, 0, none⟩ (.slice d b.length e)).setCell ⟨h, 1, none⟩ (.slice d' m.length e')) := by
 have t : Turns (fun k => k = h) V ((V.setCell ⟨h, 0, none⟩ (.slice d b.length e)).setCell ⟨h, 1, none⟩ (.slice d' m.length e')) := Turns.setCell (P := fun k => k = h) (Turns.setCell (P := fun k => k = h) (Turns.refl _ _) (p := ⟨h, 0, none⟩) rfl _) (p := ⟨h, 1, none⟩) rfl _
 obtain ⟨b0, b1, b2, b3, b4⟩ := g.box
 refine ⟨⟨⟨?_, ?_, ?_, ?_, ?_⟩, ?_, ?_, ?_, hb.turns t fun x hx => (od x hx).1, hm.turns t fun x hx => (od' x hx).1, od, od', g.pg.turns t (fun e => g.hq e.symm), g.hq, ld.mono t.size, ld'.mono t.size⟩, t.mono fun k hk => .inl hk⟩
 ·
  rw [World.cell?_setCell_other _ _ _ _ (fun hh => by cases hh)]; exact World.cell?_setCell_same _ _ _ b0
 ·
  exact World.cell?_setCell_same _ _ _ (by rw [World.cell?_setCell_other _ _ _ _ (fun hh => by cases hh)]; exact b1)
 ·
  rw [World.cell?_setCell_other _ _ _ _ (fun hh => by cases hh), World.cell?_setCell_other _ _ _ _ (fun hh => by cases hh)]; exact b2
 ·
  rw [World.cell?_setCell_other _ _ _ _ (fun hh => by cases hh), World.cell?_setCell_other _ _ _ _ (fun hh => by cases hh)]; exact b3
 ·
  rw [World.cell?_setCell_other _ _ _ _ (fun hh => by cases hh), World.cell?_setCell_other _ _ _ _ (fun hh => by cases hh)]; exact b4
 ·
  simpa using g.f0
 ·
  simpa using g.f1
 ·
  simpa using g.f3
theorem GrowAt.setRoot {V : World} {h q cp : Nat} {a : Option Addr} {c : Nat} {a' : Option Addr} {c' : Nat} {G : WoodS} (g : GrowAt V h q cp a c a' c' G) (r : Int) : GrowAt (V.setCell ⟨h, 3, none⟩ (.int .i64 r)) h q cp a c a' c' (G.withRoot r) ∧ Turns (Mine h q) V (V.setCell ⟨h, 3, none⟩ (.int .i64 r)) := by
 have t : Turns (fun k => k = h) V (V.setCell ⟨h, 3, none⟩ (.int .i64 r)) := Turns.setCell (P := fun k => k = h) (Turns.refl _ _) (p := ⟨h, 3, none⟩) rfl _
 obtain ⟨b0, b1, b2, b3, b4⟩ := g.box
 refine ⟨⟨⟨?_, ?_, ?_, ?_, ?_⟩, ?_, ?_, ?_, g.bs.turns t fun x hx => (g.ob x hx).1, g.ns.turns t fun x hx => (g.on x hx).1, g.ob, g.on, g.pg.turns t (fun e => g.hq e.symm), g.hq, g.lb.mono t.size, g.ln.mono t.size⟩, t.mono fun k hk => .inl hk⟩
 ·
  rw [World.cell?_setCell_other _ _ _ _ (fun hh => by cases hh)]; exact b0
 ·
  rw [World.cell?_setCell_other _ _ _ _ (fun hh => by cases hh)]; exact b1
 ·
  rw [World.cell?_setCell_other _ _ _ _ (fun hh => by cases hh)]; exact b2
 ·
  exact World.cell?_setCell_same _ _ _ b3
 ·
  rw [World.cell?_setCell_other _ _ _ _ (fun hh => by cases hh)]; exact b4
 ·
  simpa using g.f0
 ·
  simpa using g.f1
 ·
  simpa using g.f3
theorem OwnT.held {base : Nat} {w : World} {a : Option Addr} {cap : Nat} {l : List Bool} (h : OwnT base w a cap l) : Held w a := by
 rcases h with ⟨rfl, _, _⟩ | ⟨g, rfl, hg, hr⟩
 ·
  exact held_nil _
 ·
  exact fun x hx => by cases hx; exact hr.lt
theorem OwnT.from {base : Nat} {w : World} {a : Option Addr} {cap : Nat} {l : List Bool} (h : OwnT base w a cap l) : From base a := by
 rcases h with ⟨rfl, _, _⟩ | ⟨g, rfl, hg, _⟩
 ·
  exact from_nil _
 ·
  exact fun x hx => by cases hx; exact hg
set_option maxRecDepth 20000 in
theorem kindOf_any (l : Bool) (a a' a'' : Option Addr) (n c n' c' n'' c'' : Nat) (w : World) :
  Calls Tryz.prog 102 #[.agg #[.bool l, .slice a n c, .slice a' n' c', .slice a'' n'' c'']] w fun e w' => e = .returned (.int .i64 (if l = true then 1 else 2)) ∧ Below w.heap.size w w' := by
 have HB : Below w.heap.size w (w.alloc (.cells #[.bool l, .slice a n c, .slice a' n' c', .slice a'' n'' c''] 76)) := (Below.refl _ _).alloc (Nat.le_refl _) _
 obtain ⟨⟨q0, q1, q2, q3⟩, -⟩ := box4_new w (.bool l) (.slice a n c) (.slice a' n' c') (.slice a'' n'' c'') 76 rfl
 cases l with
 | true =>
  go_enter Tryz.func102, Tryz.ntmps102
  go_wp2
  go_ret
  exact ⟨rfl, HB⟩
 | false =>
  go_enter Tryz.func102, Tryz.ntmps102
  go_wp2
  go_ret
  exact ⟨rfl, HB⟩
theorem isS_src {w : World} {ad : Addr} {c : Nat} {l : List ByteArray} (h : IsS w (some ad) c l) : ∀ j u, (l.map Value.string)[j]? = some u → w.cell? (ad.add j) = some u := by
 intro j u hj
 rw [List.getElem?_map] at hj
 obtain ⟨x, hx, rfl⟩ := Option.map_eq_some_iff.1 hj
 obtain ⟨b', o', ha, _, hc, _⟩ := h.2.2 j x hx
 cases ha
 rw [at_add]
 exact hc
set_option maxHeartbeats 1000000 in
theorem cloneS_any (a : Option Addr) (c n : Nat) (l : List ByteArray) (w : World) (hn : n = l.length) (hB : IsS w a c l) (h1 : 1 ≤ n) (h2 : n ≤ 4096) :
  Calls Tryz.prog 52 #[.slice a n c] w fun e w' => ∃ g cap, e = .returned (.slice (some ⟨g, 0, none⟩) n cap) ∧ RowP w' g cap l ∧ w.heap.size ≤ g ∧ Below w.heap.size w w' := by
 have q : ∀ (w : World) (a : Option Addr) (n c n' c' : Nat), (binOp .eql 25 (.slice a n c) (.slice none n' c')).run Tryz.prog w = .ok (.bool a.isNone) w := fun w a n c n' c' => Lib.run_eql_slice_nil w _ _ a n c n' c' Tryz.underlying25
 obtain ⟨ad, rfl⟩ : ∃ ad, a = some ad := by
  cases a with
  | none => have := hB.none; rw [this] at hn; simp at hn; omega
  | some ad => exact ⟨ad, rfl⟩
 subst hn
 obtain ⟨i0, hi, hz0, hz1, hz2⟩ := info_parts Tryz.info9
 have hown := World.ownsRow_made (base := w.heap.size) (e := 9) (size := 1) w #[] 0 (Nat.le_refl _) (Nat.zero_le _) rfl
 have hB0 := (Below.refl w.heap.size w).alloc (Nat.le_refl _) (.cells #[] 9)
 obtain ⟨v', w', hrun, p2, p3, p4⟩ := run_append_own (P := Tryz.prog) (w.alloc (.cells #[] 9)) w.heap.size 25 25 9 i0 _ 1 16 Tryz.underlying25 hi hz0 hz1 hz2 rfl (by decide) _ 0 _ hown ad l.length c (l.map Value.string) (by simp) (isS_src (hB.below hB0))
  (fun u hu => by obtain ⟨x, _, rfl⟩ := List.mem_map.1 hu; rfl) (by have := hB.1; have := hB.2.1; unfold maxLen at *; omega) (by omega) (by simp)
 rcases p2.2 with ⟨e, _⟩ | ⟨g, cap, cur, e, hg, hcur, hnc, hcm, hsz, htk⟩
 ·
  exact absurd (p4.1 e).1 (by simp)
 ·
  subst e
  have hrow : RowP w' g cap l := by
   have hlt := p2.lt g rfl
   have hcells := p2.cells (g := g) rfl
   refine ⟨by omega, hcm, hlt.2, fun j s hs => ⟨?_, ?_, ?_⟩⟩
   ·
    have := hcells j (.string s) (by simp [hs])
    rw [at_add] at this
    simpa using this
   ·
    exact Joins.unfrozen_of_block hcur j
   ·
    obtain ⟨_, _, _, _, _, hs'⟩ := hB.2.2 j s hs
    exact hs'
  have HB : Hid (RowP w' g cap l ∧ w.heap.size ≤ g ∧ Below w.heap.size w w') := ⟨hrow, hg, hB0.grown p3 (by simp) (by intro k hk; simp [Value.ownBlock] at hk; omega)⟩
  rw [Nat.zero_add] at hrun
  generalize l.length = n at *
  clear hrow p2 p3 p4 hcur hnc hcm hsz htk hown hB0 hB hg
  go_enter Tryz.func52, Tryz.ntmps52
  go_wp2_with (at_builtin; refine Lib.wpList_append_run _ rfl _ _ _ _ rfl _ _ rfl rfl _ _ hrun ?_)
  go_ret
  exact ⟨g, cap, rfl, HB.out.1, HB.out.2.1, HB.out.2.2⟩
def Box5 (w : World) (h : Nat) (v0 v1 v2 v3 v4 : Value) : Prop :=
 WoodBox w h v0 v1 v2 v3 v4 ∧ w.frozen? ⟨h, 0, none⟩ = false ∧ w.frozen? ⟨h, 1, none⟩ = false ∧ w.frozen? ⟨h, 2, none⟩ = false ∧ w.frozen? ⟨h, 3, none⟩ = false ∧ w.frozen? ⟨h, 4, none⟩ = false
theorem box5_new (w : World) (v0 v1 v2 v3 v4 : Value) (t : TypeId) {h : Nat} (hh : h = w.heap.size) : Box5 (w.alloc (.cells #[v0, v1, v2, v3, v4] t)) h v0 v1 v2 v3 v4 := by
 refine ⟨woodBox_new w v0 v1 v2 v3 v4 t hh, ?_⟩
 subst hh
 refine ⟨?_, ?_, ?_, ?_, ?_⟩
 ·
  exact (World.frozen?_alloc_mark w _ _ _ _ 0).trans (by simp)
 ·
  exact (World.frozen?_alloc_mark w _ _ _ _ 1).trans (by simp)
 ·
  exact (World.frozen?_alloc_mark w _ _ _ _ 2).trans (by simp)
 ·
  exact (World.frozen?_alloc_mark w _ _ _ _ 3).trans (by simp)
 ·
  exact (World.frozen?_alloc_mark w _ _ _ _ 4).trans (by simp)
theorem Box5.lt {w : World} {h : Nat} {v0 v1 v2 v3 v4 : Value} (b : Box5 w h v0 v1 v2 v3 v4) : h < w.heap.size := cell_lt b.1.1
theorem Box5.turns {P : Nat → Prop} {w w' : World} {h : Nat} {v0 v1 v2 v3 v4 : Value} (b : Box5 w h v0 v1 v2 v3 v4) (t : Turns P w w') (hp : ¬ P h) : Box5 w' h v0 v1 v2 v3 v4 :=
 ⟨b.1.turns t hp, t.frozen (p := ⟨h, 0, none⟩) b.lt hp b.2.1, t.frozen (p := ⟨h, 1, none⟩) b.lt hp b.2.2.1, t.frozen (p := ⟨h, 2, none⟩) b.lt hp b.2.2.2.1, t.frozen (p := ⟨h, 3, none⟩) b.lt hp b.2.2.2.2.1, t.frozen (p := ⟨h, 4, none⟩) b.lt hp b.2.2.2.2.2⟩
theorem Box5.below {w w' : World} {h : Nat} {v0 v1 v2 v3 v4 : Value} (b : Box5 w h v0 v1 v2 v3 v4) (hb : Below w.heap.size w w') : Box5 w' h v0 v1 v2 v3 v4 := b.turns (P := fun _ => False) (Turns.of_below hb) id
theorem Box5.alloc {w : World} {h : Nat} {v0 v1 v2 v3 v4 : Value} (b : Box5 w h v0 v1 v2 v3 v4) (o : Obj) : Box5 (w.alloc o) h v0 v1 v2 v3 v4 := b.below ((Below.refl _ _).alloc (Nat.le_refl _) o)
theorem Box5.set0 {w : World} {h : Nat} {v0 v1 v2 v3 v4 : Value} (b : Box5 w h v0 v1 v2 v3 v4) (u : Value) : Box5 (w.setCell ⟨h, 0, none⟩ u) h u v1 v2 v3 v4 := by
 obtain ⟨⟨b0, b1, b2, b3, b4⟩, f0, f1, f2, f3, f4⟩ := b
 have o : ∀ (i : Nat) (x : Value), i ≠ 0 → w.cell? ⟨h, i, none⟩ = some x → (w.setCell ⟨h, 0, none⟩ u).cell? ⟨h, i, none⟩ = some x := fun i x hi hx => by rw [World.cell?_setCell_other _ _ _ _ (fun hh => hi (by cases hh; rfl))]; exact hx
 exact ⟨⟨World.cell?_setCell_same _ _ _ b0, o 1 _ (by decide) b1, o 2 _ (by decide) b2, o 3 _ (by decide) b3, o 4 _ (by decide) b4⟩, by simpa using f0, by simpa using f1, by simpa using f2, by simpa using f3, by simpa using f4⟩
theorem Box5.set1 {w : World} {h : Nat} {v0 v1 v2 v3 v4 : Value} (b : Box5 w h v0 v1 v2 v3 v4) (u : Value) : Box5 (w.setCell ⟨h, 1, none⟩ u) h v0 u v2 v3 v4 := by
 obtain ⟨⟨b0, b1, b2, b3, b4⟩, f0, f1, f2, f3, f4⟩ := b
 have o : ∀ (i : Nat) (x : Value), i ≠ 1 → w.cell? ⟨h, i, none⟩ = some x → (w.setCell ⟨h, 1, none⟩ u).cell? ⟨h, i, none⟩ = some x := fun i x hi hx => by rw [World.cell?_setCell_other _ _ _ _ (fun hh => hi (by cases hh; rfl))]; exact hx
 exact ⟨⟨o 0 _ (by decide) b0, World.cell?_setCell_same _ _ _ b1, o 2 _ (by decide) b2, o 3 _ (by decide) b3, o 4 _ (by decide) b4⟩, by simpa using f0, by simpa using f1, by simpa using f2, by simpa using f3, by simpa using f4⟩
theorem Box5.set2 {w : World} {h : Nat} {v0 v1 v2 v3 v4 : Value} (b : Box5 w h v0 v1 v2 v3 v4) (u : Value) : Box5 (w.setCell ⟨h, 2, none⟩ u) h v0 v1 u v3 v4 := by
 obtain ⟨⟨b0, b1, b2, b3, b4⟩, f0, f1, f2, f3, f4⟩ := b
 have o : ∀ (i : Nat) (x : Value), i ≠ 2 → w.cell? ⟨h, i, none⟩ = some x → (w.setCell ⟨h, 2, none⟩ u).cell? ⟨h, i, none⟩ = some x := fun i x hi hx => by rw [World.cell?_setCell_other _ _ _ _ (fun hh => hi (by cases hh; rfl))]; exact hx
 exact ⟨⟨o 0 _ (by decide) b0, o 1 _ (by decide) b1, World.cell?_setCell_same _ _ _ b2, o 3 _ (by decide) b3, o 4 _ (by decide) b4⟩, by simpa using f0, by simpa using f1, by simpa using f2, by simpa using f3, by simpa using f4⟩
def set5 (w : World) (h : Nat) (u0 u1 u2 u3 u4 : Value) : World := ((((w.setCell ⟨h, 0, none⟩ u0).setCell ⟨h, 1, none⟩ u1).setCell ⟨h, 2, none⟩ u2).setCell ⟨h, 3, none⟩ u3).setCell ⟨h, 4, none⟩ u4
theorem set5_box {w : World} {h : Nat} {v0 v1 v2 v3 v4 : Value} (b : WoodBox w h v0 v1 v2 v3 v4) (u0 u1 u2 u3 u4 : Value) : WoodBox (set5 w h u0 u1 u2 u3 u4) h u0 u1 u2 u3 u4 := by
 obtain ⟨b0, b1, b2, b3, b4⟩ := b
 have o : ∀ (V : World) (i j : Nat) (x u : Value), i ≠ j → V.cell? ⟨h, i, none⟩ = some x → (V.setCell ⟨h, j, none⟩ u).cell? ⟨h, i, none⟩ = some x := fun V i j x u hi hx => by rw [World.cell?_setCell_other _ _ _ _ (fun hh => hi (by cases hh; rfl))]; exact hx
 unfold set5
 refine ⟨?_, ?_, ?_, ?_, ?_⟩
 ·
  exact o _ 0 4 _ _ (by decide) (o _ 0 3 _ _ (by decide) (o _ 0 2 _ _ (by decide) (o _ 0 1 _ _ (by decide) (World.cell?_setCell_same _ _ _ b0))))
 ·
  exact o _ 1 4 _ _ (by decide) (o _ 1 3 _ _ (by decide) (o _ 1 2 _ _ (by decide) (World.cell?_setCell_same _ _ _ (o _ 1 0 _ _ (by decide) b1))))
 ·
  exact o _ 2 4 _ _ (by decide) (o _ 2 3 _ _ (by decide) (World.cell?_setCell_same _ _ _ (o _ 2 1 _ _ (by decide) (o _ 2 0 _ _ (by decide) b2))))
 ·
  exact o _ 3 4 _ _ (by decide) (World.cell?_setCell_same _ _ _ (o _ 3 2 _ _ (by decide) (o _ 3 1 _ _ (by decide) (o _ 3 0 _ _ (by decide) b3))))
 ·
  exact World.cell?_setCell_same _ _ _ (o _ 4 3 _ _ (by decide) (o _ 4 2 _ _ (by decide) (o _ 4 1 _ _ (by decide) (o _ 4 0 _ _ (by decide) b4))))
theorem set5_turns {P : Nat → Prop} {a w : World} {h : Nat} (t : Turns P a w) (hp : P h) (u0 u1 u2 u3 u4 : Value) : Turns P a (set5 w h u0 u1 u2 u3 u4) :=
 ((((t.setCell (p := ⟨h, 0, none⟩) hp _).setCell (p := ⟨h, 1, none⟩) hp _).setCell (p := ⟨h, 2, none⟩) hp _).setCell (p := ⟨h, 3, none⟩) hp _).setCell (p := ⟨h, 4, none⟩) hp _
theorem Turns.low {P : Nat → Prop} {w w' : World} (t : Turns P w w') (hP : ∀ i, i < w.heap.size → ¬ P i) : Below w.heap.size w w' :=
 Below.turns (Below.refl _ _) (P := fun i => w.heap.size ≤ i) (t.mono' (Q := fun i => w.heap.size ≤ i) fun i hi hp => absurd hp (hP i hi)) fun _ h => h
theorem OwnT.turns {P : Nat → Prop} {base : Nat} {w w' : World} {a : Option Addr} {cap : Nat} {l : List Bool} (h : OwnT base w a cap l) (t : Turns P w w') (hp : ∀ i, P i → i < base) : OwnT base w' a cap l := by
 rcases h with h | ⟨g, e, hg, hr⟩
 ·
  exact .inl h
 ·
  have hl := hr.lt
  obtain ⟨cur, hc, hx⟩ := hr
  exact .inr ⟨g, e, hg, cur, (t.block g hl fun x => by have := hp g x; omega).trans hc, hx⟩
end Go.Proofs.YtaecfbfcjaailaaGreat

/-
  The program's own parts of a node.
-/
import Derived.Test.YtmhnnfmggdohkaaNodeJoined
import Derived.Test.YtmhnnfmggdohkaaNodeLeaf
namespace Go.Proofs.Ytmhnnfmggdohkaa
open Go.RowKit Plain
set_option linter.unusedVariables false

theorem joined1S (W : World) (a : Option Addr) (c n : Nat) (xs : List ByteArray) (hn : n = xs.length) (h : IsS W a c xs) (h9 : n ≤ 30) :
    Calls Try.prog 39 #[.slice (some ⟨W.heap.size, 0, none⟩) 1 1] (W.alloc (.cells #[.slice a n c] 22)) fun e w' => ∃ b d, e = .returned (.slice b n d) ∧ IsS w' b d xs ∧ From W.heap.size b ∧ Below W.heap.size W w' := by
  have hA := (Below.refl W.heap.size W).alloc (Nat.le_refl _) (.cells #[.slice a n c] 22)
  have hf : flatS [(a, c, xs)] = xs := by simp [flatS]
  have := joinedS_any W.heap.size 1 n [(a, c, xs)] (W.alloc (.cells #[.slice a n c] 22)) (by
    intro i r hr
    match i, hr with
    | 0, hr => cases hr; exact ⟨by rw [hn]; exact World.cell?_alloc_at _ _ _ _ rfl, h.below hA⟩) rfl (by rw [hf]; omega) (by omega) (by rw [hf]; exact hn)
  rw [hf] at this
  exact this.mono fun e w' ⟨b, d, he, hi, hfr, hb⟩ => ⟨b, d, he, hi, hfr.mono (by simp), hA.trans (hb.mono (by simp))⟩

theorem joined1I (W : World) (a : Option Addr) (c n : Nat) (xs : List Int) (hn : n = xs.length) (h : IsI W a c xs) (h9 : n ≤ 30) :
    Calls Try.prog 40 #[.slice (some ⟨W.heap.size, 0, none⟩) 1 1] (W.alloc (.cells #[.slice a n c] 23)) fun e w' => ∃ b d, e = .returned (.slice b n d) ∧ IsI w' b d xs ∧ From W.heap.size b ∧ Below W.heap.size W w' := by
  have hA := (Below.refl W.heap.size W).alloc (Nat.le_refl _) (.cells #[.slice a n c] 23)
  have hf : flatI [(a, c, xs)] = xs := by simp [flatI]
  have := joinedI_any W.heap.size 1 n [(a, c, xs)] (W.alloc (.cells #[.slice a n c] 23)) (by
    intro i r hr
    match i, hr with
    | 0, hr => cases hr; exact ⟨by rw [hn]; exact World.cell?_alloc_at _ _ _ _ rfl, h.below hA⟩) rfl (by rw [hf]; omega) (by omega) (by rw [hf]; exact hn)
  rw [hf] at this
  exact this.mono fun e w' ⟨b, d, he, hi, hfr, hb⟩ => ⟨b, d, he, hi, hfr.mono (by simp), hA.trans (hb.mono (by simp))⟩

theorem joined2S (W : World) (a a' : Option Addr) (c c' n n' m : Nat) (xs ys : List ByteArray) (hn : n = xs.length) (hn' : n' = ys.length) (hm : m = n + n') (h : IsS W a c xs) (h' : IsS W a' c' ys) (h9 : n ≤ 30) (h9' : n' ≤ 30) :
    Calls Try.prog 39 #[.slice (some ⟨W.heap.size, 0, none⟩) 2 2] (W.alloc (.cells #[.slice a n c, .slice a' n' c'] 22)) fun e w' => ∃ b d, e = .returned (.slice b m d) ∧ IsS w' b d (xs ++ ys) ∧ From W.heap.size b ∧ Below W.heap.size W w' := by
  have hA := (Below.refl W.heap.size W).alloc (Nat.le_refl _) (.cells #[.slice a n c, .slice a' n' c'] 22)
  have hf : flatS [(a, c, xs), (a', c', ys)] = xs ++ ys := by simp [flatS]
  have := joinedS_any W.heap.size 2 m [(a, c, xs), (a', c', ys)] (W.alloc (.cells #[.slice a n c, .slice a' n' c'] 22)) (by
    intro i r hr
    match i, hr with
    | 0, hr => cases hr; exact ⟨by rw [hn]; exact World.cell?_alloc_at _ _ _ _ rfl, h.below hA⟩
    | 1, hr => cases hr; exact ⟨by rw [hn']; exact World.cell?_alloc_at _ _ _ _ rfl, h'.below hA⟩) rfl (by rw [hf, List.length_append]; omega) (by omega) (by rw [hf, List.length_append, hm, hn, hn'])
  rw [hf] at this
  exact this.mono fun e w' ⟨b, d, he, hi, hfr, hb⟩ => ⟨b, d, he, hi, hfr.mono (by simp), hA.trans (hb.mono (by simp))⟩

theorem joined2I (W : World) (a a' : Option Addr) (c c' n n' m : Nat) (xs ys : List Int) (hn : n = xs.length) (hn' : n' = ys.length) (hm : m = n + n') (h : IsI W a c xs) (h' : IsI W a' c' ys) (h9 : n ≤ 30) (h9' : n' ≤ 30) :
    Calls Try.prog 40 #[.slice (some ⟨W.heap.size, 0, none⟩) 2 2] (W.alloc (.cells #[.slice a n c, .slice a' n' c'] 23)) fun e w' => ∃ b d, e = .returned (.slice b m d) ∧ IsI w' b d (xs ++ ys) ∧ From W.heap.size b ∧ Below W.heap.size W w' := by
  have hA := (Below.refl W.heap.size W).alloc (Nat.le_refl _) (.cells #[.slice a n c, .slice a' n' c'] 23)
  have hf : flatI [(a, c, xs), (a', c', ys)] = xs ++ ys := by simp [flatI]
  have := joinedI_any W.heap.size 2 m [(a, c, xs), (a', c', ys)] (W.alloc (.cells #[.slice a n c, .slice a' n' c'] 23)) (by
    intro i r hr
    match i, hr with
    | 0, hr => cases hr; exact ⟨by rw [hn]; exact World.cell?_alloc_at _ _ _ _ rfl, h.below hA⟩
    | 1, hr => cases hr; exact ⟨by rw [hn']; exact World.cell?_alloc_at _ _ _ _ rfl, h'.below hA⟩) rfl (by rw [hf, List.length_append]; omega) (by omega) (by rw [hf, List.length_append, hm, hn, hn'])
  rw [hf] at this
  exact this.mono fun e w' ⟨b, d, he, hi, hfr, hb⟩ => ⟨b, d, he, hi, hfr.mono (by simp), hA.trans (hb.mono (by simp))⟩

theorem isS_one (W : World) (x : ByteArray) (hx : x.size ≤ maxLen) : IsS (W.alloc (.cells #[.string x] 9)) (some ⟨W.heap.size, 0, none⟩) 1 [x] := by
  refine ⟨Nat.le_refl _, by unfold maxLen; omega, fun j d hd => ?_⟩
  match j, hd with
  | 0, hd =>
    simp at hd
    subst hd
    exact ⟨W.heap.size, 0, rfl, by simp, World.cell?_alloc_at _ _ _ _ rfl, hx⟩

theorem joined3S (W : World) (a a' : Option Addr) (c c' n n' m : Nat) (xs ys : List ByteArray) (key : ByteArray) (hk : key.size ≤ maxLen) (hn : n = xs.length) (hn' : n' = ys.length) (hm : m = n + 1 + n') (h : IsS W a c xs) (h' : IsS W a' c' ys) (h9 : n ≤ 30) (h9' : n' ≤ 30) :
    Calls Try.prog 39 #[.slice (some ⟨W.heap.size + 1, 0, none⟩) 3 3] ((W.alloc (.cells #[.string key] 9)).alloc (.cells #[.slice a n c, .slice (some ⟨W.heap.size, 0, none⟩) 1 1, .slice a' n' c'] 22)) fun e w' => ∃ b d, e = .returned (.slice b m d) ∧ IsS w' b d (xs ++ key :: ys) ∧ From W.heap.size b ∧ Below W.heap.size W w' := by
  have hA0 := (Below.refl W.heap.size W).alloc (Nat.le_refl _) (.cells #[.string key] 9)
  obtain ⟨V, hV⟩ : ∃ V, V = W.alloc (.cells #[.string key] 9) := ⟨_, rfl⟩
  have hone := isS_one W key hk
  rw [← hV] at hA0 hone
  have hsz : V.heap.size = W.heap.size + 1 := by rw [hV]; simp
  have hA := (Below.refl V.heap.size V).alloc (Nat.le_refl _) (.cells #[.slice a n c, .slice (some ⟨W.heap.size, 0, none⟩) 1 1, .slice a' n' c'] 22)
  have hf : flatS [(a, c, xs), (some ⟨W.heap.size, 0, none⟩, 1, [key]), (a', c', ys)] = xs ++ key :: ys := by simp [flatS]
  have := joinedS_any V.heap.size 3 m [(a, c, xs), (some ⟨W.heap.size, 0, none⟩, 1, [key]), (a', c', ys)] (V.alloc (.cells #[.slice a n c, .slice (some ⟨W.heap.size, 0, none⟩) 1 1, .slice a' n' c'] 22)) (by
    intro i r hr
    match i, hr with
    | 0, hr => cases hr; exact ⟨by rw [hn]; exact World.cell?_alloc_at _ _ _ _ rfl, (h.below hA0).below hA⟩
    | 1, hr => cases hr; exact ⟨World.cell?_alloc_at _ _ _ _ rfl, hone.below hA⟩
    | 2, hr => cases hr; exact ⟨by rw [hn']; exact World.cell?_alloc_at _ _ _ _ rfl, (h'.below hA0).below hA⟩) rfl (by rw [hf, List.length_append, List.length_cons]; omega) (by omega) (by rw [hf, List.length_append, List.length_cons, hm, hn, hn']; omega)
  rw [hf] at this
  rw [← hV, ← hsz]
  exact this.mono fun e w' ⟨b, d, he, hi, hfr, hb⟩ => ⟨b, d, he, hi, hfr.mono (by simp; omega), (hA0.trans (hA.mono (by omega))).trans (hb.mono (by simp; omega))⟩

set_option maxRecDepth 20000 in
set_option maxHeartbeats 1000000 in
/-- LEAF PART. -/
theorem leafPart_any (a a' : Option Addr) (c c' n n' : Nat) (xs ys : List ByteArray) (w : World) (hn : n = xs.length) (hn' : n' = ys.length) (h : IsS w a c xs) (h' : IsS w a' c' ys) (h9 : n ≤ 30) (h9' : n' ≤ 30) :
    Calls Try.prog 41 #[.slice a n c, .slice a' n' c'] w fun e w' => ∃ b d b' d', e = .returned (.agg #[.bool true, .slice b n d, .slice b' n' d', .slice none 0 0]) ∧ IsS w' b d xs ∧ IsS w' b' d' ys ∧ From w.heap.size b ∧ From w.heap.size b' ∧ Below w.heap.size w w' := by
  obtain ⟨W0, hW0⟩ : ∃ W0, W0 = w.alloc (.cells #[.bool false, .slice none 0 0, .slice none 0 0, .slice none 0 0] 25) := ⟨_, rfl⟩
  have b00 : Box4 W0 w.heap.size (.bool false) (.slice none 0 0) (.slice none 0 0) (.slice none 0 0) := by rw [hW0]; exact box4_new _ _ _ _ _ _ rfl
  have HB : Below w.heap.size w W0 := by rw [hW0]; exact (Below.refl _ _).alloc (Nat.le_refl _) _
  have hz0 : W0.heap.size = w.heap.size + 1 := by rw [hW0]; simp
  have c1 : Calls Try.prog 39 #[.slice (some ⟨w.heap.size + 1, 0, none⟩) 1 1] (W0.alloc (.cells #[.slice a n c] 22)) fun e w' => ∃ b d, e = .returned (.slice b n d) ∧ IsS w' b d xs ∧ From W0.heap.size b ∧ Below W0.heap.size W0 w' := by rw [← hz0]; exact joined1S W0 a c n xs hn (h.below HB) h9
  have c2 : ∀ V, Below w.heap.size w V → Calls Try.prog 39 #[.slice (some ⟨V.heap.size, 0, none⟩) 1 1] (V.alloc (.cells #[.slice a' n' c'] 22)) fun e w' => ∃ b d, e = .returned (.slice b n' d) ∧ IsS w' b d ys ∧ From V.heap.size b ∧ Below V.heap.size V w' := fun V hV => joined1S V a' c' n' ys hn' (h'.below hV) h9'
  have hsz : w.heap.size < W0.heap.size := by omega
  have tok1 : True := trivial
  clear hn hn' h h' h9 h9' hz0
  go_enter Try.func41, Try.ntmps41
  go_wp2_with (first
    | (go_at_call 39; have _t := tok1; rw [← hW0]; refine c1.mono ?_; rintro y w1 ⟨b, d, rfl, i1, j1, hb⟩; replace b00 := b00.below hb; replace HB := Below.tr HB hb; have I1 : Hid (IsS w1 b d xs) := i1; have J1 : Hid (From W0.heap.size b) := j1; have hs1 : W0.heap.size ≤ w1.heap.size := hb.size; clear i1 j1 hb tok1 _t c1)
    | (go_at_call 39; refine (c2 _ HB).mono ?_; rintro y w2 ⟨b', d', rfl, i2, j2, hb⟩; replace b00 := b00.below hb; replace HB := Below.tr HB hb; replace I1 : Hid (IsS w2 b d xs) := I1.out.below hb; have I2 : Hid (IsS w2 b' d' ys) := i2; have J2 : Hid (From w1.heap.size b') := j2; obtain ⟨⟨r0, r1, r2, r3⟩, g0, g1, g2, g3⟩ := id b00; clear i2 j2 hb))
  have T4 := turns_put4 w2 w.heap.size (.bool true) (.slice b n d) (.slice b' n' d') (.slice none 0 0)
  refine bodyPost_ret (v := .agg #[.bool true, .slice b n d, .slice b' n' d', .slice none 0 0]) (by simp [results, Try.results41, go_sem, r0, r1, r2, r3]) rfl ⟨b, d, b', d', rfl, I1.out.turns T4 (fun x hx e => by have := J1.out x hx; omega), I2.out.turns T4 (fun x hx e => by have := J2.out x hx; omega), J1.out.mono (by omega), J2.out.mono (by omega), Below.turns HB T4 (fun k hk => by omega)⟩

set_option maxRecDepth 20000 in
set_option maxHeartbeats 1000000 in
/-- INNER PART. -/
theorem innerPart_any (a a' : Option Addr) (c c' n n' : Nat) (xs : List ByteArray) (ys : List Int) (w : World) (hn : n = xs.length) (hn' : n' = ys.length) (h : IsS w a c xs) (h' : IsI w a' c' ys) (h9 : n ≤ 30) (h9' : n' ≤ 30) :
    Calls Try.prog 42 #[.slice a n c, .slice a' n' c'] w fun e w' => ∃ b d b' d', e = .returned (.agg #[.bool false, .slice b n d, .slice none 0 0, .slice b' n' d']) ∧ IsS w' b d xs ∧ IsI w' b' d' ys ∧ From w.heap.size b ∧ From w.heap.size b' ∧ Below w.heap.size w w' := by
  obtain ⟨W0, hW0⟩ : ∃ W0, W0 = w.alloc (.cells #[.bool false, .slice none 0 0, .slice none 0 0, .slice none 0 0] 25) := ⟨_, rfl⟩
  have b00 : Box4 W0 w.heap.size (.bool false) (.slice none 0 0) (.slice none 0 0) (.slice none 0 0) := by rw [hW0]; exact box4_new _ _ _ _ _ _ rfl
  have HB : Below w.heap.size w W0 := by rw [hW0]; exact (Below.refl _ _).alloc (Nat.le_refl _) _
  have hz0 : W0.heap.size = w.heap.size + 1 := by rw [hW0]; simp
  have c1 : Calls Try.prog 39 #[.slice (some ⟨w.heap.size + 1, 0, none⟩) 1 1] (W0.alloc (.cells #[.slice a n c] 22)) fun e w' => ∃ b d, e = .returned (.slice b n d) ∧ IsS w' b d xs ∧ From W0.heap.size b ∧ Below W0.heap.size W0 w' := by rw [← hz0]; exact joined1S W0 a c n xs hn (h.below HB) h9
  have c2 : ∀ V, Below w.heap.size w V → Calls Try.prog 40 #[.slice (some ⟨V.heap.size, 0, none⟩) 1 1] (V.alloc (.cells #[.slice a' n' c'] 23)) fun e w' => ∃ b d, e = .returned (.slice b n' d) ∧ IsI w' b d ys ∧ From V.heap.size b ∧ Below V.heap.size V w' := fun V hV => joined1I V a' c' n' ys hn' (h'.below hV) h9'
  have hsz : w.heap.size < W0.heap.size := by omega
  have tok1 : True := trivial
  clear hn hn' h h' h9 h9' hz0
  go_enter Try.func42, Try.ntmps42
  go_wp2_with (first
    | (go_at_call 39; have _t := tok1; rw [← hW0]; refine c1.mono ?_; rintro y w1 ⟨b, d, rfl, i1, j1, hb⟩; replace b00 := b00.below hb; replace HB := Below.tr HB hb; have I1 : Hid (IsS w1 b d xs) := i1; have J1 : Hid (From W0.heap.size b) := j1; have hs1 : W0.heap.size ≤ w1.heap.size := hb.size; clear i1 j1 hb tok1 _t c1)
    | (go_at_call 40; refine (c2 _ HB).mono ?_; rintro y w2 ⟨b', d', rfl, i2, j2, hb⟩; replace b00 := b00.below hb; replace HB := Below.tr HB hb; replace I1 : Hid (IsS w2 b d xs) := I1.out.below hb; have I2 : Hid (IsI w2 b' d' ys) := i2; have J2 : Hid (From w1.heap.size b') := j2; obtain ⟨⟨r0, r1, r2, r3⟩, g0, g1, g2, g3⟩ := id b00; clear i2 j2 hb))
  have T4 := turns_put4 w2 w.heap.size (.bool false) (.slice b n d) (.slice none 0 0) (.slice b' n' d')
  refine bodyPost_ret (v := .agg #[.bool false, .slice b n d, .slice none 0 0, .slice b' n' d']) (by simp [results, Try.results42, go_sem, r0, r1, r2, r3]) rfl ⟨b, d, b', d', rfl, I1.out.turns T4 (fun x hx e => by have := J1.out x hx; omega), I2.out.turns T4 (fun x hx e => by have := J2.out x hx; omega), J1.out.mono (by omega), J2.out.mono (by omega), Below.turns HB T4 (fun k hk => by omega)⟩

end Go.Proofs.Ytmhnnfmggdohkaa

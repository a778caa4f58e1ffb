/-
  Package page's Right and Put, the document's own Right and Put, and the statements' own alive.
-/
import Derived.Test.YtcdcnonkoffbhaaPagePlain
import Derived.Test.YtcdcnonkoffbhaaRefPut
import Derived.Test.YtcdcnonkoffbhaaRefText
import Derived.Test.YtcdcnonkoffbhaaPad
import Derived.Test.YtcdcnonkoffbhaaMem
namespace Go.Proofs.Ytcdcnonkoffbhaa
open Go.RowKit Plain
set_option linter.unusedVariables false

def isKind (k : Int) : Bool := decide (1 ≤ k) && decide (k ≤ 5)
def isGen (g : Int) : Bool := decide (0 ≤ g) && decide (g ≤ 1099511627776)

theorem isKind_any (k : Int) (w : World) :
    Calls Try.prog 66 #[.int .i64 k] w fun e w' => e = .returned (.bool (isKind k)) ∧ w = w' := by
  by_cases h : 1 ≤ k
  · go_enter Try.func66, Try.ntmps66
    go_wp2
    go_ret
    exact ⟨ret_bool (by simp [isKind, h]), rfl⟩
  · go_enter Try.func66, Try.ntmps66
    go_wp2
    go_ret
    exact ⟨ret_bool (by rw [isKind, decide_eq_false (by omega)]; rfl), rfl⟩

theorem isGen_any (g : Int) (w : World) :
    Calls Try.prog 67 #[.int .i64 g] w fun e w' => e = .returned (.bool (isGen g)) ∧ w = w' := by
  by_cases h : 0 ≤ g
  · go_enter Try.func67, Try.ntmps67
    go_wp2
    go_ret
    exact ⟨ret_bool (by simp [isGen, h]), rfl⟩
  · go_enter Try.func67, Try.ntmps67
    go_wp2
    go_ret
    exact ⟨ret_bool (by rw [isGen, decide_eq_false (by omega)]; rfl), rfl⟩

theorem rightP_eq (k g : Int) (b : ByteArray) : rightP k g b = (isKind k && isGen g && decide ((b.size : Int) ≤ 4000)) := by
  rw [Bool.eq_iff_iff, rightP_iff]
  simp [isKind, isGen]
  omega

set_option maxHeartbeats 400000 in
theorem pageRight_any (k g : Int) (b : ByteArray) (w : World) (hs : b.size ≤ maxLen) :
    Calls Try.prog 43 #[.agg #[.int .i64 k, .int .i64 g, .string b]] w fun e w' => e = .returned (.bool (rightP k g b)) ∧ Below w.heap.size w w' := by
  unfold maxLen at hs
  have e := rightP_eq k g b
  obtain ⟨x, hx⟩ : ∃ x, x = isKind k := ⟨_, rfl⟩
  obtain ⟨y, hy⟩ : ∃ y, y = isGen g := ⟨_, rfl⟩
  have c1 : ∀ W, Calls Try.prog 66 #[.int .i64 k] W fun e w' => e = .returned (.bool x) ∧ W = w' := by rw [hx]; exact isKind_any k
  have c2 : ∀ W, Calls Try.prog 67 #[.int .i64 g] W fun e w' => e = .returned (.bool y) ∧ W = w' := by rw [hy]; exact isGen_any g
  rw [← hx, ← hy] at e
  clear hx hy
  have e' : Hid (rightP k g b = (x && y && decide ((b.size : Int) ≤ 4000))) := e
  clear e
  cases x
  · go_enter Try.func43, Try.ntmps43
    go_wp2_with (go_at_call 66; refine (c1 _).mono ?_; rintro e w' ⟨rfl, rfl⟩)
    go_ret
    exact ⟨ret_bool e'.out.symm, (Below.refl _ _).alloc (Nat.le_refl _) _⟩
  · cases y
    · go_enter Try.func43, Try.ntmps43
      go_wp2_with (first
        | (go_at_call 66; refine (c1 _).mono ?_; rintro e w' ⟨rfl, rfl⟩)
        | (go_at_call 67; refine (c2 _).mono ?_; rintro e w' ⟨rfl, rfl⟩))
      go_ret
      exact ⟨ret_bool e'.out.symm, (Below.refl _ _).alloc (Nat.le_refl _) _⟩
    · go_enter Try.func43, Try.ntmps43
      go_wp2_with (first
        | (go_at_call 66; refine (c1 _).mono ?_; rintro e w' ⟨rfl, rfl⟩)
        | (go_at_call 67; refine (c2 _).mono ?_; rintro e w' ⟨rfl, rfl⟩))
      go_ret
      exact ⟨ret_bool e'.out.symm, (Below.refl _ _).alloc (Nat.le_refl _) _⟩

theorem box3_cells {w w' : World} {v0 v1 v2 : Value} {t : TypeId} (hb : Below (w.alloc (.cells #[v0, v1, v2] t)).heap.size (w.alloc (.cells #[v0, v1, v2] t)) w') :
    w'.cell? ⟨w.heap.size, 0, none⟩ = some v0 ∧ w'.cell? ⟨w.heap.size, 1, none⟩ = some v1 ∧ w'.cell? ⟨w.heap.size, 2, none⟩ = some v2 :=
  ((box3_new w v0 v1 v2 t).below hb).1

theorem box3_from {w w1 w' : World} {v0 v1 v2 : Value} (q0 : w1.cell? ⟨w.heap.size, 0, none⟩ = some v0) (q1 : w1.cell? ⟨w.heap.size, 1, none⟩ = some v1) (q2 : w1.cell? ⟨w.heap.size, 2, none⟩ = some v2)
    (hb : Below w1.heap.size w1 w') : w'.cell? ⟨w.heap.size, 0, none⟩ = some v0 ∧ w'.cell? ⟨w.heap.size, 1, none⟩ = some v1 ∧ w'.cell? ⟨w.heap.size, 2, none⟩ = some v2 :=
  ⟨cell_below hb q0, cell_below hb q1, cell_below hb q2⟩

theorem below_box {w w' : World} {o : Obj} (hb : Below (w.alloc o).heap.size (w.alloc o) w') : Below w.heap.size w w' :=
  ((Below.refl _ _).alloc (Nat.le_refl _) _).trans (hb.mono (by simp))

set_option maxHeartbeats 1000000 in
theorem pagePut_any (k g : Int) (b : ByteArray) (w : World) (hs : b.size ≤ maxLen) :
    Calls Try.prog 26 #[.agg #[.int .i64 k, .int .i64 g, .string b]] w fun e w' => e = .returned (.tuple #[.string (pageS k g b), .int .i64 (pageE k g b)]) ∧ Below w.heap.size w w' := by
  have c0 := fun W => pageRight_any k g b W hs
  by_cases h : rightP k g b = true
  · obtain ⟨h1, h5, h0, hg, hb4⟩ := (rightP_iff _ _ _).1 h
    have eS := pageS_ok h
    have eE : pageE k g b = 0 := by rw [pageE, if_pos h]
    have hz1 := putS_size (kind_ok h1 h5)
    have hz2 := putS_size (gen_ok h0 hg)
    have hz3 := textS_size (s := b) (by omega)
    have hhz := headP_size h
    obtain ⟨x, hx⟩ : ∃ x, x = putS k 1 := ⟨_, rfl⟩
    obtain ⟨y, hy⟩ : ∃ y, y = putS g 6 := ⟨_, rfl⟩
    obtain ⟨z, hz⟩ : ∃ z, z = textS b := ⟨_, rfl⟩
    obtain ⟨t, ht⟩ : ∃ t, t = headP k g b := ⟨_, rfl⟩
    obtain ⟨u, hu⟩ : ∃ u, u = sealS t := ⟨_, rfl⟩
    have hcat : cat [x, y, z] = t := by rw [ht, hx, hy, hz]; rfl
    have hus : u.size ≤ maxLen := by rw [hu, sealS_size, ht, hhz]; unfold maxLen; omega
    have hts : t.size ≤ 1000000 := by rw [ht, hhz]; omega
    have c1 : ∀ W, Calls Try.prog 44 #[.int .i64 k, .int .i64 1] W fun e w' => ∃ v, e = .returned (.tuple #[.string x, .int .i64 v]) ∧ Below W.heap.size W w' := by
      intro W; rw [hx]; exact (put_any k 1 W).mono fun e w' ⟨he, hb⟩ => ⟨_, he, hb⟩
    have c2 : ∀ W, Calls Try.prog 44 #[.int .i64 g, .int .i64 6] W fun e w' => ∃ v, e = .returned (.tuple #[.string y, .int .i64 v]) ∧ Below W.heap.size W w' := by
      intro W; rw [hy]; exact (put_any g 6 W).mono fun e w' ⟨he, hb⟩ => ⟨_, he, hb⟩
    have c3 : ∀ W, Calls Try.prog 45 #[.string b] W fun e w' => ∃ v, e = .returned (.tuple #[.string z, .int .i64 v]) ∧ Below W.heap.size W w' := by
      intro W; rw [hz]; exact (text_any b W hs).mono fun e w' ⟨he, hb⟩ => ⟨_, he, hb⟩
    have c4 : ∀ W : World, Calls Try.prog 27 #[.slice (some ⟨W.heap.size, 0, none⟩) 3 3] (W.alloc (.cells #[.string x, .string y, .string z] 9)) fun e w' => e = .returned (.string t) ∧ Below W.heap.size W w' := by
      intro W
      have := all_three x y z W (by rw [hx, hy, hz]; omega)
      rwa [hcat] at this
    have c5 : ∀ W, Calls Try.prog 47 #[.string t] W fun e w' => e = .returned (.string u) ∧ Below W.heap.size W w' := by
      intro W; rw [hu]; exact seal_ok t W hts
    have c6 : ∀ W, Calls Try.prog 46 #[.string u] W fun e w' => e = .returned (.string (pageS k g b)) ∧ W = w' := by
      intro W
      have := trim_any u W hus
      rwa [hu, ht, ← eS, ← ht, ← hu] at this
    rw [eE]
    rw [h] at c0
    obtain ⟨r, hr⟩ : ∃ r, r = pageS k g b := ⟨_, rfl⟩
    rw [← hr] at c6 ⊢
    have tok1 : True := trivial
    clear h1 h5 h0 hg hb4 eS eE hz1 hz2 hz3 hhz hcat hus hts hx hy hz ht hu hr h
    go_enter Try.func26, Try.ntmps26
    go_wp2_with (first
      | (go_at_call 43; refine (c0 _).mono ?_; rintro e w1 ⟨rfl, hb⟩; obtain ⟨q0, q1, q2⟩ := box3_cells hb; have hB := below_box hb; clear hb c0)
      | (go_at_call 44; have _t := tok1; refine (c1 _).mono ?_; rintro e w2 ⟨v1, rfl, hb⟩; obtain ⟨q0, q1, q2⟩ := box3_from q0 q1 q2 hb; replace hB := Below.tr hB hb; clear hb tok1)
      | (go_at_call 44; refine (c2 _).mono ?_; rintro e w3 ⟨v2, rfl, hb⟩; obtain ⟨q0, q1, q2⟩ := box3_from q0 q1 q2 hb; replace hB := Below.tr hB hb; clear hb)
      | (go_at_call 45; refine (c3 _).mono ?_; rintro e w4 ⟨v3, rfl, hb⟩; replace hB := Below.tr hB hb; clear hb)
      | (go_at_call 27; refine (c4 _).mono ?_; rintro e w5 ⟨rfl, hb⟩; replace hB := Below.tr hB hb; clear hb)
      | (go_at_call 47; refine (c5 _).mono ?_; rintro e w6 ⟨rfl, hb⟩; replace hB := Below.tr hB hb; clear hb)
      | (go_at_call 46; refine (c6 _).mono ?_; rintro e w7 ⟨rfl, rfl⟩))
    go_ret2
    exact ⟨rfl, hB⟩
  · have h' : rightP k g b = false := by simpa using h
    rw [pageS_bad h', pageE, if_neg h]
    rw [h'] at c0
    go_enter Try.func26, Try.ntmps26
    go_wp2_with (go_at_call 43; refine (c0 _).mono ?_; rintro e w1 ⟨rfl, hb⟩)
    go_ret2
    exact ⟨rfl, below_box hb⟩


set_option maxHeartbeats 1000000 in
theorem refPageRight_any (k g : Int) (b : ByteArray) (w : World) (hs : b.size ≤ maxLen) :
    Calls Try.prog 57 #[.agg #[.int .i64 k, .int .i64 g, .string b]] w fun e w' => e = .returned (.bool (rightP k g b)) ∧ Below w.heap.size w w' := by
  unfold maxLen at hs
  have e' : Hid (rightP k g b = (decide (1 ≤ k) && decide (k ≤ 5) && decide (0 ≤ g) && decide (g ≤ 1099511627776) && decide ((b.size : Int) ≤ 4000))) := by
    show _ = _
    rw [rightP_eq]; unfold isKind isGen
    simp only [Bool.and_assoc]
  by_cases h1 : 1 ≤ k
  · by_cases h2 : k ≤ 5
    · by_cases h3 : 0 ≤ g
      · by_cases h4 : g ≤ 1099511627776
        · go_enter Try.func57, Try.ntmps57
          go_wp2
          go_ret
          exact ⟨ret_bool (by rw [e'.out]; simp [h1, h2, h3, h4]), (Below.refl _ _).alloc (Nat.le_refl _) _⟩
        · go_enter Try.func57, Try.ntmps57
          go_wp2
          go_ret
          exact ⟨ret_bool (by rw [e'.out, decide_eq_false (p := g ≤ _) (by omega)]; simp), (Below.refl _ _).alloc (Nat.le_refl _) _⟩
      · go_enter Try.func57, Try.ntmps57
        go_wp2
        go_ret
        exact ⟨ret_bool (by rw [e'.out, decide_eq_false (p := 0 ≤ g) (by omega)]; simp), (Below.refl _ _).alloc (Nat.le_refl _) _⟩
    · go_enter Try.func57, Try.ntmps57
      go_wp2
      go_ret
      exact ⟨ret_bool (by rw [e'.out, decide_eq_false (p := k ≤ 5) (by omega)]; simp), (Below.refl _ _).alloc (Nat.le_refl _) _⟩
  · go_enter Try.func57, Try.ntmps57
    go_wp2
    go_ret
    exact ⟨ret_bool (by rw [e'.out, decide_eq_false (p := 1 ≤ k) (by omega)]; simp), (Below.refl _ _).alloc (Nat.le_refl _) _⟩

set_option maxHeartbeats 1000000 in
theorem refPagePut_any (k g : Int) (b : ByteArray) (w : World) (h : rightP k g b = true) :
    Calls Try.prog 29 #[.agg #[.int .i64 k, .int .i64 g, .string b]] w fun e w' => e = .returned (.string (pageS k g b)) ∧ Below w.heap.size w w' := by
  obtain ⟨h1, h5, h0, hg, hb4⟩ := (rightP_iff _ _ _).1 h
  have eS := pageS_ok h
  have hz1 := putS_size (kind_ok h1 h5)
  have hz2 := putS_size (gen_ok h0 hg)
  have hz3 := textS_size (s := b) (by omega)
  have hhz := headP_size h
  obtain ⟨x, hx⟩ : ∃ x, x = putS k 1 := ⟨_, rfl⟩
  obtain ⟨y, hy⟩ : ∃ y, y = putS g 6 := ⟨_, rfl⟩
  obtain ⟨z, hz⟩ : ∃ z, z = textS b := ⟨_, rfl⟩
  have hcat : x ++ y ++ z = headP k g b := by
    rw [hx, hy, hz, headP]
    apply bytes_ext
    rw [data_append, data_append, cat_data]
    simp
  obtain ⟨u, hu⟩ : ∃ u, u = sealS (x ++ y ++ z) := ⟨_, rfl⟩
  have hus : u.size ≤ maxLen := by rw [hu, hcat, sealS_size, hhz]; unfold maxLen; omega
  have hts : (x ++ y ++ z).size ≤ 1000000 := by rw [hcat, hhz]; omega
  have c1 : ∀ W, Calls Try.prog 49 #[.int .i64 k, .int .i64 1] W fun e w' => ∃ v, e = .returned (.tuple #[.string x, .int .i64 v]) ∧ Below W.heap.size W w' := by
    intro W; rw [hx]; exact (refPut_any k 1 W).mono fun e w' ⟨he, hb⟩ => ⟨_, he, hb⟩
  have c2 : ∀ W, Calls Try.prog 49 #[.int .i64 g, .int .i64 6] W fun e w' => ∃ v, e = .returned (.tuple #[.string y, .int .i64 v]) ∧ Below W.heap.size W w' := by
    intro W; rw [hy]; exact (refPut_any g 6 W).mono fun e w' ⟨he, hb⟩ => ⟨_, he, hb⟩
  have c3 : ∀ W, Calls Try.prog 50 #[.string b] W fun e w' => ∃ v, e = .returned (.tuple #[.string z, .int .i64 v]) ∧ Below W.heap.size W w' := by
    intro W; rw [hz]; exact (refText_any b W (by unfold maxLen; omega)).mono fun e w' ⟨he, hb⟩ => ⟨_, he, hb⟩
  have c5 : ∀ W, Calls Try.prog 52 #[.string (x ++ y ++ z)] W fun e w' => e = .returned (.string u) ∧ Below W.heap.size W w' := by
    intro W; rw [hu]; exact refSeal_ok _ W hts
  have c6 : ∀ W, Calls Try.prog 51 #[.string u] W fun e w' => e = .returned (.string (pageS k g b)) ∧ W = w' := by
    intro W
    have := refTrim_any u W hus
    rwa [hu, hcat, ← eS, ← hcat, ← hu] at this
  have zx : x.size ≤ 1 := by rw [hx]; omega
  have zy : y.size ≤ 6 := by rw [hy]; omega
  have zz : z.size ≤ 4002 := by rw [hz]; omega
  obtain ⟨r, hr⟩ : ∃ r, r = pageS k g b := ⟨_, rfl⟩
  rw [← hr] at c6 ⊢
  have hB : Below w.heap.size w w := Below.refl _ _
  have tok1 : True := trivial
  clear h1 h5 h0 hg hb4 eS hz1 hz2 hz3 hhz hcat hus hts hx hy hz hu hr h
  go_enter Try.func29, Try.ntmps29
  go_wp2_with (first
    | (go_at_call 49; have _t := tok1; refine (c1 _).mono ?_; rintro e w2 ⟨v1, rfl, hb⟩; obtain ⟨q0, q1, q2⟩ := box3_cells hb; replace hB := below_box hb; clear hb tok1)
    | (go_at_call 49; refine (c2 _).mono ?_; rintro e w3 ⟨v2, rfl, hb⟩; obtain ⟨q0, q1, q2⟩ := box3_from q0 q1 q2 hb; replace hB := Below.tr hB hb; clear hb)
    | (go_at_call 50; refine (c3 _).mono ?_; rintro e w4 ⟨v3, rfl, hb⟩; replace hB := Below.tr hB hb; clear hb)
    | (go_at_call 52; refine (c5 _).mono ?_; rintro e w6 ⟨rfl, hb⟩; replace hB := Below.tr hB hb; clear hb)
    | (go_at_call 51; refine (c6 _).mono ?_; rintro e w7 ⟨rfl, rfl⟩))
  go_ret
  exact ⟨rfl, hB⟩

end Go.Proofs.Ytcdcnonkoffbhaa

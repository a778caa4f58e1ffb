/-
  Calls of package bits with one row or two as a literal, with one place.
-/
import Derived.Test.YtomjajmjooaegaaBitsFind
import Derived.Test.YtomjajmjooaegaaBitsWith
namespace Go.Proofs.Ytomjajmjooaegaa
open Go.RowKit Plain
set_option linter.unusedVariables false

theorem isL_one {W : World} {a : Option Addr} {c n : Nat} {l : List Bool} (hn : n = l.length) (h : IsB W a c l) : IsL (W.alloc (.cells #[.slice a n c] 22)) (some ⟨W.heap.size, 0, none⟩) 1 [(a, c, l)] := by
  subst hn
  have hB := (Below.refl W.heap.size W).alloc (Nat.le_refl _) (.cells #[.slice a l.length c] 22)
  refine ⟨Nat.le_refl _, by unfold maxLen; omega, fun j d hd => ?_⟩
  match j, hd with
  | 0, hd =>
    simp at hd
    subst hd
    exact ⟨h.below hB, W.heap.size, 0, rfl, by simp, World.cell?_alloc_at _ _ _ _ rfl⟩

theorem isL_two {W : World} {a b : Option Addr} {c d n m : Nat} {l k : List Bool} (hn : n = l.length) (hm : m = k.length) (h : IsB W a c l) (h' : IsB W b d k) : IsL (W.alloc (.cells #[.slice a n c, .slice b m d] 22)) (some ⟨W.heap.size, 0, none⟩) 2 [(a, c, l), (b, d, k)] := by
  subst hn hm
  have hB := (Below.refl W.heap.size W).alloc (Nat.le_refl _) (.cells #[.slice a l.length c, .slice b k.length d] 22)
  refine ⟨Nat.le_refl _, by unfold maxLen; omega, fun j x hd => ?_⟩
  match j, hd with
  | 0, hd =>
    simp at hd
    subst hd
    exact ⟨h.below hB, W.heap.size, 0, rfl, by simp, World.cell?_alloc_at _ _ _ _ rfl⟩
  | 1, hd =>
    simp at hd
    subst hd
    exact ⟨h'.below hB, W.heap.size, 0, rfl, by simp, World.cell?_alloc_at _ _ _ _ rfl⟩

theorem isI_one (W : World) (m : Int) : IsI (W.alloc (.cells #[.int .i64 m] 3)) (some ⟨W.heap.size, 0, none⟩) 1 [m] := by
  refine ⟨Nat.le_refl _, by unfold maxLen; omega, fun j d hd => ?_⟩
  match j, hd with
  | 0, hd =>
    simp at hd
    subst hd
    exact ⟨W.heap.size, 0, rfl, by simp, World.cell?_alloc_at _ _ _ _ rfl⟩

theorem count_one (W : World) (b : Option Addr) (d n : Nat) (l : List Bool) (hn : n = l.length) (h : IsB W b d l) :
    Calls Try.prog 25 #[.slice (some ⟨W.heap.size, 0, none⟩) 1 1] (W.alloc (.cells #[.slice b n d] 22)) fun e w' => e = .returned (.int .i64 (countB [l])) ∧ Below W.heap.size W w' :=
  (count_any _ _ _ _ (isL_one hn h)).mono fun e w' ⟨he, hw⟩ => ⟨he, hw ▸ (Below.refl _ _).alloc (Nat.le_refl _) _⟩

theorem count_two (W : World) (b b' : Option Addr) (d d' n n' : Nat) (l l' : List Bool) (hn : n = l.length) (hn' : n' = l'.length) (h : IsB W b d l) (h' : IsB W b' d' l') :
    Calls Try.prog 25 #[.slice (some ⟨W.heap.size, 0, none⟩) 2 2] (W.alloc (.cells #[.slice b n d, .slice b' n' d'] 22)) fun e w' => e = .returned (.int .i64 (countB [l, l'])) ∧ Below W.heap.size W w' :=
  (count_any _ _ _ _ (isL_two hn hn' h h')).mono fun e w' ⟨he, hw⟩ => ⟨he, hw ▸ (Below.refl _ _).alloc (Nat.le_refl _) _⟩

theorem first_one (W : World) (fr : Int) (b : Option Addr) (d n : Nat) (l : List Bool) (hn : n = l.length) (h : IsB W b d l) (hl : n ≤ 4096) :
    Calls Try.prog 26 #[.int .i64 fr, .slice (some ⟨W.heap.size, 0, none⟩) 1 1] (W.alloc (.cells #[.slice b n d] 22)) fun e w' => e = .returned (.int .i64 (firstB fr [l])) ∧ Below W.heap.size W w' :=
  (first_any fr _ _ _ _ (isL_one hn h) (fun x hx => by simp [rowsOf] at hx; subst hx; omega)).mono fun e w' ⟨he, hw⟩ => ⟨he, Below.tr ((Below.refl _ _).alloc (Nat.le_refl _) _) hw⟩

theorem with_one (W : World) (a : Option Addr) (c n : Nat) (l : List Bool) (is : Bool) (t : Nat) (hn : n = l.length) (h : IsB W a c l) (hl : n ≤ 4096) (ht : t < n) :
    Calls Try.prog 27 #[.slice a n c, .bool is, .slice (some ⟨W.heap.size, 0, none⟩) 1 1] (W.alloc (.cells #[.int .i64 t] 3)) fun e w' => ∃ a' c', e = .returned (.tuple #[.slice a' n c', .int .i64 0]) ∧ IsB w' a' c' (l.set t is) ∧ Below W.heap.size W w' := by
  subst hn
  have hB := (Below.refl W.heap.size W).alloc (Nat.le_refl _) (.cells #[.int .i64 (t : Int)] 3)
  have hok : placesOk l [(t : Int)] = true := by simp [placesOk]; exact ht
  have := with_any a (some ⟨W.heap.size, 0, none⟩) c 1 l is [(t : Int)] _ (h.below hB) (isI_one W t) hl
  rw [withE_ok hok, withL_ok hok] at this
  refine this.mono fun e w' ⟨a', c', he, hI, hb⟩ => ⟨a', c', ?_, hI, Below.tr hB hb⟩
  rw [he, setB_length]

theorem first_two (W : World) (fr : Int) (b b' : Option Addr) (d d' n n' : Nat) (l l' : List Bool) (hn : n = l.length) (hn' : n' = l'.length) (h : IsB W b d l) (h' : IsB W b' d' l') (hl : n ≤ 4096) (hl' : n' ≤ 4096) :
    Calls Try.prog 26 #[.int .i64 fr, .slice (some ⟨W.heap.size, 0, none⟩) 2 2] (W.alloc (.cells #[.slice b n d, .slice b' n' d'] 22)) fun e w' => e = .returned (.int .i64 (firstB fr [l, l'])) ∧ Below W.heap.size W w' :=
  (first_any fr _ _ _ _ (isL_two hn hn' h h') (fun x hx => by simp [rowsOf] at hx; rcases hx with rfl | rfl <;> omega)).mono fun e w' ⟨he, hw⟩ => ⟨he, Below.tr ((Below.refl _ _).alloc (Nat.le_refl _) _) hw⟩

/-- With one place set, a row of the call's own. -/
theorem with_own_one (W : World) (a : Option Addr) (c n : Nat) (l : List Bool) (is : Bool) (t : Nat) (hn : n = l.length) (h : IsB W a c l) (hl : n ≤ 4096) (ht : t < n) :
    Calls Try.prog 27 #[.slice a n c, .bool is, .slice (some ⟨W.heap.size, 0, none⟩) 1 1] (W.alloc (.cells #[.int .i64 t] 3)) fun e w' => ∃ a' c', e = .returned (.tuple #[.slice a' n c', .int .i64 0]) ∧ OwnT W.heap.size w' a' c' (l.set t is) ∧ Below W.heap.size W w' := by
  subst hn
  have hB := (Below.refl W.heap.size W).alloc (Nat.le_refl _) (.cells #[.int .i64 (t : Int)] 3)
  have hok : placesOk l [(t : Int)] = true := by simp [placesOk]; exact ht
  have := with_own a (some ⟨W.heap.size, 0, none⟩) c 1 l is [(t : Int)] _ (h.below hB) (isI_one W t) hl
  rw [withE_ok hok, withL_ok hok] at this
  refine this.mono fun e w' ⟨a', c', he, hI, hb⟩ => ⟨a', c', ?_, ?_, Below.tr hB hb⟩
  · rw [he, setB_length]
  · rcases hI with h | ⟨g, h1, h2, h3⟩
    · exact .inl h
    · exact .inr ⟨g, h1, Nat.le_trans hB.size h2, h3⟩

end Go.Proofs.Ytomjajmjooaegaa

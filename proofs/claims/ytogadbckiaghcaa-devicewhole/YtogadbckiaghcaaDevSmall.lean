/-
  Copies of a device's blocks and writes, with long ones cut; what a crash leaves of such a device.
-/
import Derived.Test.YtogadbckiaghcaaDevWrites
import Derived.Test.YtogadbckiaghcaaDevCrash
namespace Go.Proofs.Ytogadbckiaghcaa
open Go.RowKit Plain
set_option linter.unusedVariables false

/-- The first so many are turned. -/
def mapN {α : Type} (f : α → α) (l : List α) (j : Nat) : List α := (l.take j).map f ++ l.drop j

theorem mapN_zero {α : Type} (f : α → α) (l : List α) : mapN f l 0 = l := by simp [mapN]
theorem mapN_all {α : Type} (f : α → α) (l : List α) : mapN f l l.length = l.map f := by simp [mapN]
theorem mapN_length {α : Type} (f : α → α) (l : List α) (j : Nat) : (mapN f l j).length = l.length := by simp [mapN]; omega

theorem mapN_at {α : Type} (f : α → α) {l : List α} {j : Nat} {x : α} (h : l[j]? = some x) : (mapN f l j)[j]? = some x := by
  have hj := (List.getElem?_eq_some_iff.1 h).1
  unfold mapN
  rw [List.getElem?_append_right (by simp; omega), List.length_map, List.length_take, Nat.min_eq_left (by omega), Nat.sub_self, List.getElem?_drop, Nat.add_zero]
  exact h

theorem mapN_succ {α : Type} (f : α → α) {l : List α} {j : Nat} {x : α} (h : l[j]? = some x) : mapN f l (j + 1) = (mapN f l j).set j (f x) := by
  have hj := (List.getElem?_eq_some_iff.1 h).1
  unfold mapN
  rw [List.take_add_one, h, List.map_append, List.set_append_right _ _ (by simp; omega), List.length_map, List.length_take, Nat.min_eq_left (by omega), Nat.sub_self, List.drop_eq_getElem_cons hj, List.set_cons_zero, List.append_assoc]
  rfl

theorem mapN_stay {α : Type} (f : α → α) {l : List α} {j : Nat} {x : α} (h : l[j]? = some x) (hf : f x = x) : mapN f l (j + 1) = mapN f l j := by
  rw [mapN_succ f h, hf]
  have hx := mapN_at f h
  have hj := (List.getElem?_eq_some_iff.1 hx).1
  apply List.ext_getElem?
  intro i
  by_cases hi : j = i
  · subst hi
    rw [List.getElem?_set_self hj, hx]
  · rw [List.getElem?_set_ne hi]

/-- A row of writes that the call itself owns. -/
def RowP (w : World) (g cap : Nat) (ps : List (Int × ByteArray)) : Prop :=
  ∃ cur : Array Value, w.heap[g]? = some (.cells cur 50 (0, 0)) ∧ cur.toList.take (ps.length * 2) = cellsP ps ∧ ps.length ≤ cap ∧ cap ≤ maxLen ∧ cur.size = cap * 2

theorem RowP.lt {w : World} {g cap : Nat} {ps : List (Int × ByteArray)} (h : RowP w g cap ps) : g < w.heap.size := by
  obtain ⟨cur, hg, _⟩ := h
  exact (Array.getElem?_eq_some_iff.1 hg).1

theorem RowP.below {w w' : World} {g cap : Nat} {ps : List (Int × ByteArray)} (h : RowP w g cap ps) (hb : Below w.heap.size w w') : RowP w' g cap ps := by
  have hl := h.lt
  obtain ⟨cur, hg, hr⟩ := h
  exact ⟨cur, by rw [hb.block g hl]; exact hg, hr⟩

theorem RowP.setOther {w : World} {g cap h i : Nat} {ps : List (Int × ByteArray)} {v : Value} (hr : RowP w g cap ps) (hn : g ≠ h) : RowP (w.setCell ⟨h, i, none⟩ v) g cap ps := by
  obtain ⟨cur, hg, hr⟩ := hr
  exact ⟨cur, by rw [Below.heap_setCell _ _ _ _ hn]; exact hg, hr⟩

theorem RowP.at {w : World} {g cap : Nat} {ps : List (Int × ByteArray)} (h : RowP w g cap ps) {j : Nat} {u : Value} (hu : (cellsP ps)[j]? = some u) : w.cell? ⟨g, j, none⟩ = some u ∧ w.frozen? ⟨g, j, none⟩ = false := by
  obtain ⟨cur, hg, ht, hl, _, hs⟩ := h
  have hj := (List.getElem?_eq_some_iff.1 hu).1
  rw [cellsP_length] at hj
  have hc : cur[j]? = some u := by
    rw [← Array.getElem?_toList]
    have : (cur.toList.take (ps.length * 2))[j]? = some u := by rw [ht]; exact hu
    rwa [List.getElem?_take_of_lt hj] at this
  exact ⟨by rw [Joins.cell_of_block hg]; exact hc, Joins.unfrozen_of_block hg j⟩

theorem cellsP_set {ps : List (Int × ByteArray)} {j : Nat} {p : Int × ByteArray} (hp : ps[j]? = some p) (x : ByteArray) : cellsP (ps.set j (p.1, x)) = (cellsP ps).set (j * 2 + 1) (.string x) := by
  induction ps generalizing j with
  | nil => simp at hp
  | cons q ps ih =>
    cases j with
    | zero =>
      simp at hp
      subst hp
      rfl
    | succ j =>
      rw [List.getElem?_cons_succ] at hp
      rw [List.set_cons_succ, cellsP_cons, cellsP_cons, ih hp, show (j + 1) * 2 + 1 = (j * 2 + 1) + 1 + 1 by omega]
      rfl

theorem RowP.set {w : World} {g cap : Nat} {ps : List (Int × ByteArray)} (h : RowP w g cap ps) {j : Nat} {p : Int × ByteArray} (hp : ps[j]? = some p) (x : ByteArray) : RowP (w.setCell ⟨g, j * 2 + 1, none⟩ (.string x)) g cap (ps.set j (p.1, x)) := by
  obtain ⟨cur, hg, ht, hl, hm, hs⟩ := h
  refine ⟨_, Joins.block_setCell hg _, ?_, by rw [List.length_set]; exact hl, hm, by rw [Array.size_setIfInBounds]; exact hs⟩
  rw [List.length_set, Array.toList_setIfInBounds, List.take_set, ht, cellsP_set hp]

theorem RowP.isP {w : World} {g cap : Nat} {ps : List (Int × ByteArray)} (h : RowP w g cap ps) (hk : ∀ p ∈ ps, okP p) : IsP w (some ⟨g, 0, none⟩) cap ps := by
  have hl := h.lt
  refine ⟨?_, ?_, fun j p hp => ⟨g, 0, rfl, hl, ?_, ?_, hk p (List.mem_of_getElem? hp)⟩⟩
  · obtain ⟨cur, _, _, h1, _⟩ := h; exact h1
  · obtain ⟨cur, _, _, _, h1, _⟩ := h; exact h1
  · rw [Nat.zero_add]; exact (h.at (cellsP_at hp).1).1
  · rw [Nat.zero_add]; exact (h.at (cellsP_at hp).2).1

theorem isS_src {w : World} {ad : Addr} {c : Nat} {bs : List ByteArray} (h : IsS w (some ad) c bs) : ∀ j u, (bs.map Value.string)[j]? = some u → w.cell? (ad.add j) = some u := by
  intro j u hj
  rw [List.getElem?_map] at hj
  obtain ⟨x, hx, rfl⟩ := Option.map_eq_some_iff.1 hj
  obtain ⟨b', o', ha, _, hc, _⟩ := h.2.2 j x hx
  cases ha
  rw [at_add]
  exact hc

/-- 'append([]string{}, bs...)': a row of the call's own. -/
theorem copyS (W : World) (a : Option Addr) (c : Nat) (bs : List ByteArray) (hS : IsS W a c bs) (hz : bs.length * 16 ≤ 140737488355328) (ty : TypeId) :
    ∃ g cap w', (Builtin.append_ #[22, 22] ty #[.slice (some ⟨W.heap.size, 0, none⟩) 0 0, .slice a bs.length c]).run Try.prog (W.alloc (.cells #[] 9)) = .ok (.slice (some ⟨g, 0, none⟩) bs.length cap) w' ∧ W.heap.size ≤ g ∧ RowS w' g cap bs ∧ Below W.heap.size W w' := by
  obtain ⟨i0, hi, hz0, hz1, hz2⟩ := info_parts Try.info9
  have hown := World.ownsRow_made (base := W.heap.size) (e := 9) (size := 1) W #[] 0 (Nat.le_refl _) (Nat.zero_le _) rfl
  have hB := (Below.refl W.heap.size W).alloc (Nat.le_refl _) (.cells #[] 9)
  cases a with
  | none =>
    have h0 : bs = [] := by
      rcases Nat.eq_zero_or_pos bs.length with h | h
      · exact List.length_eq_zero_iff.1 h
      · obtain ⟨b, o, hh⟩ := hS.some h
        cases hh
    subst h0
    refine ⟨W.heap.size, 0, _, run_append_none W.heap.size _ ty _ i0 1 0 c rfl Try.underlying22 hi _ _ _ hown, Nat.le_refl _, ⟨#[], ?_, rfl, Nat.le_refl _, Nat.zero_le _, rfl⟩, hB⟩
    exact World.alloc_heap_new W _
  | some ad =>
    obtain ⟨v', w', hr, h2, h3, h4⟩ := run_append_own (P := Try.prog) (W.alloc (.cells #[] 9)) W.heap.size 22 ty 9 i0 _ 1 16 Try.underlying22 hi hz0 hz1 hz2 rfl (by decide) _ 0 _ hown ad bs.length c (bs.map Value.string) (by simp) (isS_src (hS.below hB))
      (fun u hu => by obtain ⟨x, _, rfl⟩ := List.mem_map.1 hu; rfl) (by have := hS.1; have := hS.2.1; unfold maxLen at *; omega) (by omega) (by simp)
    rcases h2.2 with ⟨h, _⟩ | ⟨g, cap, cur, h, hg, hcur, hnc, hcm, hsz, htk⟩
    · exact absurd (h4.1 h).1 (by simp)
    · subst h
      refine ⟨g, cap, w', by rw [hr, Nat.zero_add], hg, ⟨cur, hcur, by simpa using htk, by omega, hcm, by omega⟩, hB.grown h3 (by simp) (by intro k hk; simp [Value.ownBlock] at hk; omega)⟩

/-- 'append([]api.Write{}, ps...)': a row of the call's own. -/
theorem copyP (W : World) (a : Option Addr) (c : Nat) (ps : List (Int × ByteArray)) (hP : IsP W a c ps) (hz : ps.length * 24 ≤ 140737488355328) (ty : TypeId) :
    ∃ g cap w', (Builtin.append_ #[23, 23] ty #[.slice (some ⟨W.heap.size, 0, none⟩) 0 0, .slice a ps.length c]).run Try.prog (W.alloc (.cells #[] 50)) = .ok (.slice (some ⟨g, 0, none⟩) ps.length cap) w' ∧ W.heap.size ≤ g ∧ RowP w' g cap ps ∧ Below W.heap.size W w' := by
  obtain ⟨i0, hi, hz0, hz1, hz2⟩ := info_parts Try.info50
  have hown := World.ownsRow_made (base := W.heap.size) (e := 50) (size := 2) W #[] 0 (Nat.le_refl _) (Nat.zero_le _) rfl
  have hB := (Below.refl W.heap.size W).alloc (Nat.le_refl _) (.cells #[] 50)
  cases a with
  | none =>
    have h0 : ps = [] := by
      rcases Nat.eq_zero_or_pos ps.length with h | h
      · exact List.length_eq_zero_iff.1 h
      · obtain ⟨b, o, hh⟩ := hP.some h
        cases hh
    subst h0
    refine ⟨W.heap.size, 0, _, run_append_none W.heap.size _ ty _ i0 2 0 c rfl Try.underlying23 hi _ _ _ hown, Nat.le_refl _, ⟨#[], ?_, rfl, Nat.le_refl _, Nat.zero_le _, rfl⟩, hB⟩
    exact World.alloc_heap_new W _
  | some ad =>
    obtain ⟨v', w', hr, h2, h3, h4⟩ := run_append_own (P := Try.prog) (W.alloc (.cells #[] 50)) W.heap.size 23 ty 50 i0 _ 2 24 Try.underlying23 hi hz0 hz1 hz2 rfl (by decide) _ 0 _ hown ad ps.length c (cellsP ps) (cellsP_length ps) (isP_src (hP.below hB))
      (cellsP_one ps) (by have := hP.1; have := hP.2.1; unfold maxLen at *; omega) (by omega) (by simp)
    rcases h2.2 with ⟨h, _⟩ | ⟨g, cap, cur, h, hg, hcur, hnc, hcm, hsz, htk⟩
    · exact absurd (h4.1 h).1 (by simp)
    · subst h
      refine ⟨g, cap, w', by rw [hr, Nat.zero_add], hg, ⟨cur, hcur, by simpa using htk, by omega, hcm, by omega⟩, hB.grown h3 (by simp) (by intro k hk; simp [Value.ownBlock] at hk; omega)⟩

/-- Blocks and writes within one sector. -/
def smS (s : ByteArray) : ByteArray := if 512 < s.size then ⟨#[]⟩ else s
def smP (p : Int × ByteArray) : Int × ByteArray := if 512 < p.2.size then (p.1, ⟨#[120]⟩) else p

theorem smS_size (s : ByteArray) : (smS s).size ≤ 512 := by
  unfold smS
  split
  · exact Nat.zero_le _
  · omega

theorem smP_size (p : Int × ByteArray) : (smP p).2.size ≤ 512 := by
  unfold smP
  split
  · show 1 ≤ 512; omega
  · omega

theorem smS_long {s : ByteArray} (h : 512 < s.size) : smS s = ⟨#[]⟩ := if_pos h
theorem smS_short {s : ByteArray} (h : ¬ 512 < s.size) : smS s = s := if_neg h
theorem smP_long {p : Int × ByteArray} (h : 512 < p.2.size) : smP p = (p.1, ⟨#[120]⟩) := if_pos h
theorem smP_short {p : Int × ByteArray} (h : ¬ 512 < p.2.size) : smP p = p := if_neg h

theorem smP_okP {ps : List (Int × ByteArray)} (h : ∀ p ∈ ps, okP p) : ∀ p ∈ ps.map smP, okP p := by
  intro p hp
  obtain ⟨q, hq, rfl⟩ := List.mem_map.1 hp
  refine ⟨Nat.le_trans (smP_size q) (by unfold maxLen; omega), ?_⟩
  have := (h q hq).2
  unfold smP
  split
  · exact this
  · exact this

/-- What a crash leaves of such a device. -/
theorem crash_whole {bs : List ByteArray} {ps : List (Int × ByteArray)} (m : Nat → Int) (h : rightD (bs.map smS) (ps.map smP) = true) {k : Nat} (hk : k < bs.length) :
    blk (crashA m (bs.map smS) (ps.map smP)) k = blk (bs.map smS) k ∨ ∃ p ∈ ps.map smP, p.1 = k ∧ p.2 = blk (crashA m (bs.map smS) (ps.map smP)) k := by
  obtain ⟨_, h4, h5⟩ := (rightD_iff _ _).1 h
  unfold crashA
  rw [if_pos h]
  refine crashOn_small (n := (bs.map smS).length) m 0 (ps.map smP) rfl (fun s hs => ⟨h4 s hs, ?_⟩) (fun p hp => ⟨h5 p hp, ?_⟩) k (by rw [List.length_map]; exact hk)
  · obtain ⟨x, _, rfl⟩ := List.mem_map.1 hs; exact smS_size x
  · obtain ⟨x, _, rfl⟩ := List.mem_map.1 hp; exact smP_size x

theorem crashA_length {bs : List ByteArray} {ps : List (Int × ByteArray)} (m : Nat → Int) (h : rightD bs ps = true) : (crashA m bs ps).length = bs.length := by
  unfold crashA
  rw [if_pos h]
  exact crashOn_length _ _ _ _

/-- Whether one of the first so many writes is that one. -/
def anyN (ps : List (Int × ByteArray)) (k : Nat) (s : ByteArray) (b : Bool) (j : Nat) : Bool := b || (ps.take j).any fun p => decide (p.1 = k) && decide (p.2 = s)

theorem anyN_succ {ps : List (Int × ByteArray)} (k : Nat) (s : ByteArray) (b : Bool) {j : Nat} {p : Int × ByteArray} (h : ps[j]? = some p) : anyN ps k s b (j + 1) = (anyN ps k s b j || (decide (p.1 = k) && decide (p.2 = s))) := by
  unfold anyN
  rw [List.take_add_one, h, List.any_append]
  simp [Bool.or_assoc]

theorem anyN_all {ps : List (Int × ByteArray)} {k : Nat} {s z : ByteArray} (h : s = z ∨ ∃ p ∈ ps, p.1 = k ∧ p.2 = s) : anyN ps k s (decide (s = z)) ps.length = true := by
  unfold anyN
  rw [List.take_length, Bool.or_eq_true, decide_eq_true_eq, List.any_eq_true]
  rcases h with h | ⟨p, hp, h1, h2⟩
  · exact .inl h
  · exact .inr ⟨p, hp, by simp [h1, h2]⟩

end Go.Proofs.Ytogadbckiaghcaa

/-
  A device as two plain lists: blocks, and writes on their way; what it tells, what a crash leaves of it. Nothing of any program.
-/
import Derived.Test.YtcdcnonkoffbhaaDevPlain
namespace Go.Proofs.Ytcdcnonkoffbhaa.Plain
open Go.RowKit

/-- Bytes that a block may have. -/
def okS (s : ByteArray) : Bool := decide (s.size ≤ 4096) && decide (trimS s = s)

theorem okS_iff (s : ByteArray) : okS s = true ↔ s.size ≤ 4096 ∧ Even s := by
  unfold okS
  rw [Bool.and_eq_true, decide_eq_true_eq, decide_eq_true_eq, even_iff]

theorem okS_trim {s : ByteArray} (h : s.size ≤ 4096) : okS (trimS s) = true :=
  (okS_iff _).2 ⟨Nat.le_trans (trimS_le s) h, even_trim s⟩

theorem okS_mix (o n : ByteArray) (m : Int) : okS (mixS o n m) = true := (okS_iff _).2 ⟨mix_size o n m, even_mix o n m⟩

/-- A write that may be on its way to one of so many blocks. -/
def okW (n : Nat) (p : Int × ByteArray) : Bool := decide (0 ≤ p.1) && decide (p.1 < n) && okS p.2

theorem okW_iff (n : Nat) (p : Int × ByteArray) : okW n p = true ↔ (0 ≤ p.1 ∧ p.1 < n) ∧ okS p.2 = true := by
  unfold okW
  rw [Bool.and_eq_true, Bool.and_eq_true, decide_eq_true_eq, decide_eq_true_eq]

/-- A device that may be. -/
def rightD (bs : List ByteArray) (ps : List (Int × ByteArray)) : Bool :=
  decide (1 ≤ bs.length) && decide (bs.length ≤ 2048) && decide (ps.length ≤ 2048) && bs.all okS && ps.all (okW bs.length)

theorem rightD_iff (bs : List ByteArray) (ps : List (Int × ByteArray)) : rightD bs ps = true ↔
    (1 ≤ bs.length ∧ bs.length ≤ 2048 ∧ ps.length ≤ 2048) ∧ (∀ s ∈ bs, okS s = true) ∧ ∀ p ∈ ps, okW bs.length p = true := by
  unfold rightD
  simp only [Bool.and_eq_true, decide_eq_true_eq, List.all_eq_true]
  constructor
  · rintro ⟨⟨⟨⟨a, b⟩, c⟩, d⟩, e⟩; exact ⟨⟨a, b, c⟩, d, e⟩
  · rintro ⟨⟨a, b, c⟩, d, e⟩; exact ⟨⟨⟨⟨a, b⟩, c⟩, d⟩, e⟩

/-- A block's bytes; none beyond. -/
def blk (bs : List ByteArray) (k : Nat) : ByteArray := bs[k]?.getD ByteArray.empty

theorem blk_set_same {bs : List ByteArray} {k : Nat} (h : k < bs.length) (s : ByteArray) : blk (bs.set k s) k = s := by
  unfold blk
  rw [List.getElem?_set_self h]; rfl

theorem blk_set_other {bs : List ByteArray} {k j : Nat} (h : k ≠ j) (s : ByteArray) : blk (bs.set k s) j = blk bs j := by
  unfold blk
  rw [List.getElem?_set_ne h]

theorem blk_mem {bs : List ByteArray} {k : Nat} (h : k < bs.length) : blk bs k ∈ bs := by
  unfold blk
  rw [List.getElem?_eq_getElem h]
  exact List.getElem_mem h

theorem blk_ext {bs cs : List ByteArray} (hl : bs.length = cs.length) (h : ∀ k, k < bs.length → blk bs k = blk cs k) : bs = cs := by
  apply List.ext_getElem?
  intro k
  by_cases hk : k < bs.length
  · have := h k hk
    unfold blk at this
    rw [List.getElem?_eq_getElem hk, List.getElem?_eq_getElem (by omega)] at this ⊢
    simp only [Option.getD_some] at this
    rw [this]
  · rw [List.getElem?_eq_none (by omega), List.getElem?_eq_none (by omega)]

/-- What a block tells, from what it told so far. -/
def tellOn (k : Int) : ByteArray → List (Int × ByteArray) → ByteArray
  | s, [] => s
  | s, p :: ps => tellOn k (if p.1 = k then p.2 else s) ps

def tellsS (bs : List ByteArray) (ps : List (Int × ByteArray)) (k : Nat) : ByteArray := tellOn k (blk bs k) ps

theorem tellOn_append (k : Int) (s : ByteArray) (ps qs : List (Int × ByteArray)) : tellOn k s (ps ++ qs) = tellOn k (tellOn k s ps) qs := by
  induction ps generalizing s with
  | nil => rfl
  | cons p ps ih => exact ih _

theorem tells_write_same (bs : List ByteArray) (ps : List (Int × ByteArray)) (k : Nat) (s : ByteArray) : tellsS bs (ps ++ [((k : Int), s)]) k = s := by
  unfold tellsS
  rw [tellOn_append]
  show (if (k : Int) = (k : Int) then s else _) = s
  rw [if_pos rfl]

theorem tells_write_other (bs : List ByteArray) (ps : List (Int × ByteArray)) (k j : Nat) (s : ByteArray) (h : k ≠ j) : tellsS bs (ps ++ [((k : Int), s)]) j = tellsS bs ps j := by
  unfold tellsS
  rw [tellOn_append]
  show (if (k : Int) = (j : Int) then s else _) = _
  rw [if_neg (by omega)]

/-- The first so many writes come to lie in their blocks, mixed by masks. -/
def crashOn (m : Nat → Int) : Nat → List ByteArray → List (Int × ByteArray) → List ByteArray
  | _, bs, [] => bs
  | i, bs, p :: ps => crashOn m (i + 1) (bs.set p.1.toNat (mixS (blk bs p.1.toNat) p.2 (m i))) ps

def crashL (m : Nat → Int) (bs : List ByteArray) (ps : List (Int × ByteArray)) : List ByteArray := crashOn m 0 bs ps

theorem crashOn_length (m : Nat → Int) (i : Nat) (bs : List ByteArray) (ps : List (Int × ByteArray)) : (crashOn m i bs ps).length = bs.length := by
  induction ps generalizing i bs with
  | nil => rfl
  | cons p ps ih =>
    show (crashOn m (i + 1) _ ps).length = _
    rw [ih, List.length_set]

theorem crashOn_snoc (m : Nat → Int) (i : Nat) (bs : List ByteArray) (ps : List (Int × ByteArray)) (p : Int × ByteArray) :
    crashOn m i bs (ps ++ [p]) = (crashOn m i bs ps).set p.1.toNat (mixS (blk (crashOn m i bs ps) p.1.toNat) p.2 (m (i + ps.length))) := by
  induction ps generalizing i bs with
  | nil => rfl
  | cons q ps ih =>
    show crashOn m (i + 1) _ (ps ++ [p]) = _
    rw [ih]
    show _ = (crashOn m (i + 1) _ ps).set _ (mixS (blk (crashOn m (i + 1) _ ps) _) _ (m (i + (ps.length + 1))))
    rw [show i + 1 + ps.length = i + (ps.length + 1) by omega]

theorem okS_set {bs : List ByteArray} (h : ∀ s ∈ bs, okS s = true) (k : Nat) {x : ByteArray} (hx : okS x = true) : ∀ s ∈ bs.set k x, okS s = true := by
  intro s hs
  rcases List.mem_or_eq_of_mem_set hs with h1 | h1
  · exact h s h1
  · rw [h1]; exact hx

theorem crashOn_ok (m : Nat → Int) (i : Nat) {bs : List ByteArray} (ps : List (Int × ByteArray)) (h : ∀ s ∈ bs, okS s = true) : ∀ s ∈ crashOn m i bs ps, okS s = true := by
  induction ps generalizing i bs with
  | nil => exact h
  | cons p ps ih => exact ih (i + 1) (okS_set h _ (okS_mix _ _ _))

theorem crashOn_congr {m m' : Nat → Int} (bs : List ByteArray) (ps : List (Int × ByteArray)) (i : Nat) (h : ∀ j, j < ps.length → m (i + j) = m' (i + j)) : crashOn m i bs ps = crashOn m' i bs ps := by
  induction ps generalizing i bs with
  | nil => rfl
  | cons p ps ih =>
    show crashOn m (i + 1) _ ps = crashOn m' (i + 1) _ ps
    have h0 : m i = m' i := h 0 (by simp)
    rw [h0]
    refine ih _ (i + 1) fun j hj => ?_
    have := h (j + 1) (by simp; omega)
    rw [show i + (j + 1) = i + 1 + j by omega] at this
    exact this

theorem rightD_crash {bs : List ByteArray} {ps : List (Int × ByteArray)} (h : rightD bs ps = true) (m : Nat → Int) : rightD (crashL m bs ps) [] = true := by
  rw [rightD_iff] at h ⊢
  obtain ⟨⟨h1, h2, h3⟩, h4, h5⟩ := h
  refine ⟨⟨?_, ?_, by simp⟩, crashOn_ok m 0 ps h4, fun p hp => by cases hp⟩
  · unfold crashL; rw [crashOn_length]; exact h1
  · unfold crashL; rw [crashOn_length]; exact h2

/-- With all sectors of each write each block is what it told. -/
theorem crashOn_full {n : Nat} (i : Nat) {bs : List ByteArray} (ps : List (Int × ByteArray)) (hl : bs.length = n) (h : ∀ p ∈ ps, okW n p = true) (k : Nat) :
    blk (crashOn (fun _ => 255) i bs ps) k = tellOn k (blk bs k) ps := by
  induction ps generalizing i bs with
  | nil => rfl
  | cons p ps ih =>
    obtain ⟨⟨p0, p1⟩, hp⟩ := (okW_iff n p).1 (h p List.mem_cons_self)
    obtain ⟨hs, he⟩ := (okS_iff _).1 hp
    show blk (crashOn (fun _ => 255) (i + 1) (bs.set p.1.toNat (mixS (blk bs p.1.toNat) p.2 255)) ps) k = tellOn k (if p.1 = k then p.2 else blk bs k) ps
    rw [ih (i + 1) (by rw [List.length_set]; exact hl) (fun q hq => h q (List.mem_cons_of_mem p hq)), mix_all _ _ hs, trim_even he]
    congr 1
    by_cases hk : p.1 = k
    · rw [if_pos hk, hk]
      exact blk_set_same (by omega) _
    · rw [if_neg hk]
      exact blk_set_other (by omega) _

theorem flush_tells {bs : List ByteArray} {ps : List (Int × ByteArray)} (h : rightD bs ps = true) (k : Nat) : blk (crashL (fun _ => 255) bs ps) k = tellsS bs ps k :=
  crashOn_full 0 ps rfl ((rightD_iff bs ps).1 h).2.2 k

/-- A crash of writes within one sector leaves each block as one of these writes, or as it was. -/
theorem crashOn_small {n : Nat} (m : Nat → Int) (i : Nat) {bs : List ByteArray} (ps : List (Int × ByteArray)) (hl : bs.length = n) (hb : ∀ s ∈ bs, okS s = true ∧ s.size ≤ 512)
    (h : ∀ p ∈ ps, okW n p = true ∧ p.2.size ≤ 512) (k : Nat) (hk : k < n) :
    blk (crashOn m i bs ps) k = blk bs k ∨ ∃ p ∈ ps, p.1 = k ∧ p.2 = blk (crashOn m i bs ps) k := by
  induction ps generalizing i bs with
  | nil => exact .inl rfl
  | cons p ps ih =>
    obtain ⟨hw, hp5⟩ := h p List.mem_cons_self
    obtain ⟨⟨p0, p1⟩, hp⟩ := (okW_iff n p).1 hw
    have he := ((okS_iff _).1 hp).2
    have hm := blk_mem (bs := bs) (k := p.1.toNat) (by omega)
    obtain ⟨ho, ho5⟩ := hb _ hm
    have heo := ((okS_iff _).1 ho).2
    have hcase := mix_small (m i) ho5 hp5 heo he
    have hb' : ∀ s ∈ bs.set p.1.toNat (mixS (blk bs p.1.toNat) p.2 (m i)), okS s = true ∧ s.size ≤ 512 := by
      intro s hs
      rcases List.mem_or_eq_of_mem_set hs with h1 | h1
      · exact hb s h1
      · rw [h1]
        rcases hcase with e | e <;> rw [e]
        · exact ⟨ho, ho5⟩
        · exact ⟨hp, hp5⟩
    show blk (crashOn m (i + 1) (bs.set p.1.toNat (mixS (blk bs p.1.toNat) p.2 (m i))) ps) k = _ ∨ _
    rcases ih (i + 1) (by rw [List.length_set]; exact hl) hb' (fun q hq => h q (List.mem_cons_of_mem p hq)) with e | ⟨q, hq, hqk, hqe⟩
    · by_cases hpk : p.1 = k
      · have hs : blk (bs.set p.1.toNat (mixS (blk bs p.1.toNat) p.2 (m i))) k = mixS (blk bs p.1.toNat) p.2 (m i) := by
          rw [show p.1.toNat = k by omega]
          exact blk_set_same (by omega) _
        rcases hcase with e2 | e2
        · left
          rw [e, hs, e2, show p.1.toNat = k by omega]
        · right
          refine ⟨p, List.mem_cons_self, hpk, ?_⟩
          show p.2 = blk (crashOn m (i + 1) _ ps) k
          rw [e, hs, e2]
      · left
        rw [e]
        exact blk_set_other (by omega) _
    · exact .inr ⟨q, List.mem_cons_of_mem p hq, hqk, hqe⟩

end Go.Proofs.Ytcdcnonkoffbhaa.Plain

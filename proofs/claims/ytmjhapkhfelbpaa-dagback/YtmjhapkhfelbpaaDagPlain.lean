/-
  Graphs of tasks, as plain lists: which tasks a task comes to, from need to need; which are free; an order. Nothing of any program.
-/
import Derived.Handy
namespace Go.Proofs.Ytmjhapkhfelbpaa.Plain
set_option linter.unusedVariables false

/-- A task. -/
structure TaskP where
  needs : List Int
  tries : Int
  wait : Int
  lease : Int

/-- What number i needs. -/
def needsAt (ts : List TaskP) (i : Nat) : List Int := (ts[i]?.map (·.needs)).getD []

/-- All needs are numbers of tasks. -/
def Inside (ts : List TaskP) : Prop := ∀ i, ∀ x ∈ needsAt ts i, 0 ≤ x ∧ x < ts.length

/-- From need to need. -/
inductive Way (ts : List TaskP) : Nat → Nat → Prop
  | one {i j : Nat} : (j : Int) ∈ needsAt ts i → Way ts i j
  | more {i j k : Nat} : Way ts i j → (k : Int) ∈ needsAt ts j → Way ts i k

theorem Way.trans {ts : List TaskP} {i j k : Nat} (h : Way ts i j) (h2 : Way ts j k) : Way ts i k := by
  induction h2 with
  | one h3 => exact .more h h3
  | more _ h3 ih => exact .more ih h3

def Acyclic (ts : List TaskP) : Prop := ∀ i, ¬ Way ts i i

theorem nodupN_le : ∀ (N : Nat) (l : List Nat), l.Nodup → (∀ b ∈ l, b < N) → l.length ≤ N
  | 0, l, _, h => by
    cases l with
    | nil => exact Nat.le_refl _
    | cons b l => have := h b (by simp); omega
  | N + 1, l, hn, h => by
    by_cases hm : N ∈ l
    · have h1 := nodupN_le N (l.erase N) (hn.erase _) (fun b hb => by
        have h2 := (List.Nodup.mem_erase_iff hn).1 hb
        have h3 := h b h2.2
        have h4 := h2.1
        omega)
      rw [List.length_erase_of_mem hm] at h1
      omega
    · have := nodupN_le N l hn (fun b hb => by
        have h3 := h b hb
        have h4 : b ≠ N := fun e => hm (e ▸ hb)
        omega)
      omega

/-- Of a graph with no round, whatever is done, as long as one is not, one that is not has all that it needs done. -/
theorem one_free {ts : List TaskP} (ha : Acyclic ts) (hi : Inside ts) (done : Nat → Bool) (h : ∃ i, i < ts.length ∧ done i = false) :
    ∃ i, i < ts.length ∧ done i = false ∧ ∀ x ∈ needsAt ts i, done x.toNat = true := by
  refine Classical.byContradiction fun hno => ?_
  have step : ∀ i, i < ts.length → done i = false → ∃ j, j < ts.length ∧ done j = false ∧ (j : Int) ∈ needsAt ts i := by
    intro i hl hd
    refine Classical.byContradiction fun hn => hno ⟨i, hl, hd, fun x hx => ?_⟩
    obtain ⟨h0, h1⟩ := hi i x hx
    cases hb : done x.toNat with
    | true => rfl
    | false => exact absurd ⟨x.toNat, by omega, hb, by rw [Int.toNat_of_nonneg h0]; exact hx⟩ hn
  have chain : ∀ k, ∃ i l, l.length = k ∧ (i :: l).Nodup ∧ (∀ b ∈ i :: l, b < ts.length) ∧ done i = false ∧ ∀ b ∈ l, Way ts b i := by
    intro k
    induction k with
    | zero =>
      obtain ⟨i, hl, hd⟩ := h
      exact ⟨i, [], rfl, by simp, by simpa using hl, hd, by simp⟩
    | succ k ih =>
      obtain ⟨i, l, hk, hn, hb, hd, hw⟩ := ih
      obtain ⟨j, hl, hd2, hm⟩ := step i (hb i (by simp)) hd
      have hto : ∀ b ∈ i :: l, Way ts b j := by
        intro b hbm
        rcases List.mem_cons.1 hbm with rfl | hbm
        · exact .one hm
        · exact .more (hw b hbm) hm
      refine ⟨j, i :: l, by simp [hk], List.nodup_cons.2 ⟨fun hjm => ha j (hto j hjm), hn⟩, fun b hbm => ?_, hd2, hto⟩
      rcases List.mem_cons.1 hbm with rfl | hbm
      · exact hl
      · exact hb b hbm
  obtain ⟨i, l, hk, hn, hb, _, _⟩ := chain ts.length
  have := nodupN_le ts.length (i :: l) hn hb
  simp at this
  omega

/-- Where the tasks stand in some order, each behind all that it needs, there is no round. -/
theorem acyclic_of_rank {ts : List TaskP} (r : Nat → Nat) (h : ∀ i, ∀ x ∈ needsAt ts i, r x.toNat < r i) : Acyclic ts := by
  have hw : ∀ i j, Way ts i j → r j < r i := by
    intro i j h2
    induction h2 with
    | one h3 => have := h _ _ h3; simpa using this
    | more _ h3 ih => have := h _ _ h3; simp at this; omega
  exact fun i hi => by have := hw i i hi; omega

/-! Rows of places. -/

/-- A place of a row. -/
def onAt (o : List Bool) (j : Nat) : Bool := o[j]?.getD false

/-- Places set. -/
def setAll (o : List Bool) (xs : List Int) : List Bool := xs.foldl (fun o x => o.set x.toNat true) o

theorem setAll_nil (o : List Bool) : setAll o [] = o := rfl
theorem setAll_cons (o : List Bool) (x : Int) (xs : List Int) : setAll o (x :: xs) = setAll (o.set x.toNat true) xs := rfl
theorem setAll_append (o : List Bool) (xs ys : List Int) : setAll o (xs ++ ys) = setAll (setAll o xs) ys := by unfold setAll; rw [List.foldl_append]

theorem setAll_length (xs : List Int) : ∀ o : List Bool, (setAll o xs).length = o.length := by
  induction xs with
  | nil => intro o; rfl
  | cons x xs ih => intro o; rw [setAll_cons, ih, List.length_set]

theorem onAt_set (o : List Bool) (i j : Nat) (b : Bool) : onAt (o.set i b) j = if i = j ∧ j < o.length then b else onAt o j := by
  unfold onAt
  rw [List.getElem?_set]
  by_cases h : i = j
  · subst h
    by_cases hl : i < o.length
    · simp [hl]
    · simp [hl]
  · simp [h]

theorem onAt_setAll (xs : List Int) : ∀ (o : List Bool) (j : Nat), onAt (setAll o xs) j = true ↔ onAt o j = true ∨ (j < o.length ∧ ∃ x ∈ xs, x.toNat = j) := by
  induction xs with
  | nil => intro o j; simp [setAll_nil]
  | cons x xs ih =>
    intro o j
    rw [setAll_cons, ih, onAt_set, List.length_set]
    constructor
    · rintro (h | ⟨hl, y, hy, e⟩)
      · split at h
        · rename_i hc; exact .inr ⟨hc.2, x, by simp, hc.1⟩
        · exact .inl h
      · exact .inr ⟨hl, y, by simp [hy], e⟩
    · rintro (h | ⟨hl, y, hy, e⟩)
      · left; split
        · rfl
        · exact h
      · rcases List.mem_cons.1 hy with rfl | hy
        · left; rw [if_pos ⟨e, hl⟩]
        · exact .inr ⟨hl, y, hy, e⟩

theorem row_ext {o p : List Bool} (hl : o.length = p.length) (h : ∀ j, onAt o j = true ↔ onAt p j = true) : o = p := by
  apply List.ext_getElem hl
  intro i h1 h2
  have := h i
  unfold onAt at this
  rw [List.getElem?_eq_getElem h1, List.getElem?_eq_getElem h2] at this
  simp only [Option.getD_some] at this
  cases ha : o[i] <;> cases hb : p[i] <;> simp_all

/-- How many places are set. -/
def howMany (o : List Bool) : Nat := o.countP id

theorem howMany_le (o : List Bool) : howMany o ≤ o.length := List.countP_le_length

theorem howMany_mono : ∀ (o p : List Bool), o.length = p.length → (∀ j, onAt o j = true → onAt p j = true) → howMany o ≤ howMany p ∧ (howMany p ≤ howMany o → o = p)
  | [], [], _, _ => ⟨Nat.le_refl _, fun _ => rfl⟩
  | a :: o, b :: p, hl, h => by
    obtain ⟨i1, i2⟩ := howMany_mono o p (by simpa using hl) (fun j hj => by have := h (j + 1); simpa [onAt] using this (by simpa [onAt] using hj))
    have h0 := h 0
    simp only [onAt, List.getElem?_cons_zero, Option.getD_some] at h0
    unfold howMany at *
    cases a <;> cases b <;> simp_all <;> omega
  | [], b :: p, hl, _ => by simp at hl
  | a :: o, [], hl, _ => by simp at hl

/-- One pass: of each place that is set all that its task needs is set. -/
def passN (ts : List TaskP) : Nat → List Bool → List Bool
  | 0, o => o
  | k + 1, o => if onAt (passN ts k o) k = true then setAll (passN ts k o) (needsAt ts k) else passN ts k o

def passR (ts : List TaskP) (o : List Bool) : List Bool := passN ts ts.length o

def roundsR (ts : List TaskP) : Nat → List Bool → List Bool
  | 0, o => o
  | k + 1, o => passR ts (roundsR ts k o)

/-- Which tasks number i comes to. -/
def reachL (ts : List TaskP) (i : Nat) : List Bool := roundsR ts ts.length (setAll (List.replicate ts.length false) (needsAt ts i))

theorem passN_length (ts : List TaskP) (o : List Bool) : ∀ k, (passN ts k o).length = o.length
  | 0 => rfl
  | k + 1 => by
    unfold passN
    split
    · rw [setAll_length, passN_length]
    · exact passN_length ts o k

theorem passN_mono (ts : List TaskP) (o : List Bool) (j : Nat) : ∀ k, onAt o j = true → onAt (passN ts k o) j = true
  | 0, h => h
  | k + 1, h => by
    unfold passN
    split
    · exact (onAt_setAll _ _ _).2 (.inl (passN_mono ts o j k h))
    · exact passN_mono ts o j k h

theorem passN_up (ts : List TaskP) (o : List Bool) (j k : Nat) : ∀ m, onAt (passN ts k o) j = true → onAt (passN ts (k + m) o) j = true
  | 0, h => h
  | m + 1, h => by
    have ih := passN_up ts o j k m h
    show onAt (passN ts (k + m + 1) o) j = true
    unfold passN
    split
    · exact (onAt_setAll _ _ _).2 (.inl ih)
    · exact ih

def ClosedR (ts : List TaskP) (o : List Bool) : Prop := ∀ i, i < ts.length → onAt o i = true → ∀ x ∈ needsAt ts i, onAt o x.toNat = true

/-- A pass that changes nothing: closed. -/
theorem closed_of_pass {ts : List TaskP} {o : List Bool} (hi : Inside ts) (hl : o.length = ts.length) (h : passR ts o = o) : ClosedR ts o := by
  intro i hlt ho x hx
  obtain ⟨h0, h1⟩ := hi i x hx
  have e : onAt (passN ts (i + 1) o) x.toNat = true := by
    unfold passN
    rw [if_pos (passN_mono ts o i i ho)]
    exact (onAt_setAll _ _ _).2 (.inr ⟨by rw [passN_length]; omega, x, hx, rfl⟩)
  have := passN_up ts o x.toNat (i + 1) (ts.length - (i + 1)) e
  rw [show i + 1 + (ts.length - (i + 1)) = ts.length by omega] at this
  rw [← h]
  exact this

theorem pass_of_closed {ts : List TaskP} {o : List Bool} (hc : ClosedR ts o) : ∀ k, k ≤ ts.length → passN ts k o = o
  | 0, _ => rfl
  | k + 1, hk => by
    have ih := pass_of_closed hc k (by omega)
    unfold passN
    rw [ih]
    split
    · rename_i ho
      refine row_ext (setAll_length _ _) fun j => ?_
      rw [onAt_setAll]
      constructor
      · rintro (h | ⟨_, x, hx, rfl⟩)
        · exact h
        · exact hc k (by omega) ho x hx
      · exact .inl
    · rfl

theorem roundsR_length (ts : List TaskP) (o : List Bool) : ∀ k, (roundsR ts k o).length = o.length
  | 0 => rfl
  | k + 1 => by unfold roundsR passR; rw [passN_length, roundsR_length]

/-- Behind as many rounds as there are tasks it is closed. -/
theorem rounds_closed {ts : List TaskP} {o : List Bool} (hi : Inside ts) (hl : o.length = ts.length) : ClosedR ts (roundsR ts ts.length o) := by
  have key : ∀ k, ClosedR ts (roundsR ts k o) ∨ k ≤ howMany (roundsR ts k o) := by
    intro k
    induction k with
    | zero => exact .inr (Nat.zero_le _)
    | succ k ih =>
      have hlk : (roundsR ts k o).length = ts.length := by rw [roundsR_length, hl]
      rcases ih with hc | hk
      · left
        show ClosedR ts (passR ts (roundsR ts k o))
        unfold passR
        rw [pass_of_closed hc _ (Nat.le_refl _)]
        exact hc
      · obtain ⟨h1, h2⟩ := howMany_mono (roundsR ts k o) (roundsR ts (k + 1) o) (by rw [roundsR_length, roundsR_length]) (fun j hj => passN_mono ts _ j ts.length hj)
        by_cases hle : howMany (roundsR ts (k + 1) o) ≤ howMany (roundsR ts k o)
        · left
          have e := h2 hle
          have hc : ClosedR ts (roundsR ts k o) := closed_of_pass hi hlk e.symm
          rw [← e]
          exact hc
        · right
          omega
  rcases key ts.length with h | h
  · exact h
  · have h1 := howMany_le (roundsR ts ts.length o)
    have hlk : (roundsR ts ts.length o).length = ts.length := by rw [roundsR_length, hl]
    intro i hlt _ x hx
    obtain ⟨h0, hx1⟩ := hi i x hx
    have hall : ∀ b ∈ roundsR ts ts.length o, id b = true := List.countP_eq_length.1 (by unfold howMany at *; omega)
    unfold onAt
    rw [List.getElem?_eq_getElem (by rw [hlk]; omega)]
    exact hall _ (List.getElem_mem _)

theorem pass_sound {ts : List TaskP} {o : List Bool} (hi : Inside ts) (i : Nat) (h : ∀ j, onAt o j = true → Way ts i j) : ∀ k j, onAt (passN ts k o) j = true → Way ts i j
  | 0, j, hj => h j hj
  | k + 1, j, hj => by
    unfold passN at hj
    split at hj
    · rename_i ho
      rcases (onAt_setAll _ _ _).1 hj with hj | ⟨_, x, hx, rfl⟩
      · exact pass_sound hi i h k j hj
      · refine .more (pass_sound hi i h k k ho) ?_
        rw [Int.toNat_of_nonneg (hi k x hx).1]
        exact hx
    · exact pass_sound hi i h k j hj

theorem rounds_sound {ts : List TaskP} {o : List Bool} (hi : Inside ts) (i : Nat) (h : ∀ j, onAt o j = true → Way ts i j) : ∀ k j, onAt (roundsR ts k o) j = true → Way ts i j
  | 0, j, hj => h j hj
  | k + 1, j, hj => pass_sound hi i (rounds_sound hi i h k) ts.length j hj

theorem rounds_mono (ts : List TaskP) (o : List Bool) (j : Nat) : ∀ k, onAt o j = true → onAt (roundsR ts k o) j = true
  | 0, h => h
  | k + 1, h => passN_mono ts _ j ts.length (rounds_mono ts o j k h)

theorem onAt_zeros (n j : Nat) : onAt (List.replicate n false) j = false := by
  unfold onAt
  rw [List.getElem?_replicate]
  split <;> rfl

theorem way_lt {ts : List TaskP} (hi : Inside ts) {i j : Nat} (h : Way ts i j) : j < ts.length := by
  cases h with
  | one h => have := (hi _ _ h).2; omega
  | more _ h => have := (hi _ _ h).2; omega

theorem reach_iff {ts : List TaskP} (hi : Inside ts) (i j : Nat) : onAt (reachL ts i) j = true ↔ Way ts i j := by
  have hl : (setAll (List.replicate ts.length false) (needsAt ts i)).length = ts.length := by rw [setAll_length, List.length_replicate]
  constructor
  · refine rounds_sound hi i (fun j hj => ?_) _ j
    rcases (onAt_setAll _ _ _).1 hj with h | ⟨_, x, hx, rfl⟩
    · rw [onAt_zeros] at h; cases h
    · refine .one ?_
      rw [Int.toNat_of_nonneg (hi i x hx).1]
      exact hx
  · intro h
    induction h with
    | one h => exact rounds_mono ts _ _ _ ((onAt_setAll _ _ _).2 (.inr ⟨by rw [List.length_replicate]; have := (hi _ _ h).2; omega, _, h, by simp⟩))
    | more h1 h2 ih =>
      have := rounds_closed hi hl _ (way_lt hi h1) ih _ h2
      rw [Int.toNat_natCast] at this
      exact this

end Go.Proofs.Ytmjhapkhfelbpaa.Plain

/-
  Which graphs may be, as plain facts. Nothing of any program.
-/
import Derived.Test.YtmjhapkhfelbpaaDagOrd
namespace Go.Proofs.Ytmjhapkhfelbpaa.Plain
set_option linter.unusedVariables false

/-- Needs that rise, from l on, below n. -/
def needsB (n : Int) : Int → List Int → Bool
  | _, [] => true
  | l, x :: xs => decide (l ≤ x) && decide (x < n) && needsB n (x + 1) xs

/-- What the next one must be at least. -/
def nextN : Int → List Int → Int
  | l, [] => l
  | _, x :: xs => nextN (x + 1) xs

theorem nextN_append (l : Int) (xs : List Int) (x : Int) : nextN l (xs ++ [x]) = x + 1 := by
  induction xs generalizing l with
  | nil => rfl
  | cons y ys ih => exact ih (y + 1)

theorem needsB_append (n l : Int) (xs ys : List Int) : needsB n l (xs ++ ys) = (needsB n l xs && needsB n (nextN l xs) ys) := by
  induction xs generalizing l with
  | nil => simp [needsB, nextN]
  | cons y zs ih => simp only [List.cons_append, needsB, nextN, ih, Bool.and_assoc]

theorem needsB_one (n l x : Int) : needsB n l [x] = (decide (l ≤ x) && decide (x < n)) := by simp [needsB]

theorem needsB_take {n l : Int} {xs : List Int} {j : Nat} {x : Int} (hx : xs[j]? = some x) (h : needsB n l (xs.take j) = true) (h1 : nextN l (xs.take j) ≤ x) (h2 : x < n) : needsB n l (xs.take (j + 1)) = true := by
  rw [List.take_add_one, hx, needsB_append, h]
  simp [needsB, h1, h2]

theorem nextN_take {l : Int} {xs : List Int} {j : Nat} {x : Int} (hx : xs[j]? = some x) : nextN l (xs.take (j + 1)) = x + 1 := by
  rw [List.take_add_one, hx]
  exact nextN_append _ _ _

theorem needsB_bad {n l : Int} {xs : List Int} {j : Nat} {x : Int} (hx : xs[j]? = some x) (h1 : ¬ (nextN l (xs.take j) ≤ x ∧ x < n)) : needsB n l xs = false := by
  have e : xs = xs.take j ++ x :: xs.drop (j + 1) := by
    have hj := (List.getElem?_eq_some_iff.1 hx).1
    have hv : xs[j] = x := by rw [List.getElem?_eq_getElem hj] at hx; exact Option.some.inj hx
    rw [← hv, List.getElem_cons_drop, List.take_append_drop]
  rw [e, needsB_append]
  simp only [needsB]
  by_cases h2 : nextN l (xs.take j) ≤ x
  · have h3 : ¬ x < n := fun h => h1 ⟨h2, h⟩
    simp [h3]
  · simp [h2]

theorem needsB_in {n : Int} : ∀ {l : Int} {xs : List Int}, needsB n l xs = true → 0 ≤ l → ∀ x ∈ xs, 0 ≤ x ∧ x < n := by
  intro l xs
  induction xs generalizing l with
  | nil => intro _ _ x hx; cases hx
  | cons y ys ih =>
    intro h h0 x hx
    simp only [needsB, Bool.and_eq_true, decide_eq_true_eq] at h
    rcases List.mem_cons.1 hx with rfl | hx
    · omega
    · exact ih h.2 (by omega) x hx

theorem needsB_from {n l : Int} {xs : List Int} (h : needsB n l xs = true) : l ≤ nextN l xs := by
  induction xs generalizing l with
  | nil => exact Int.le_refl _
  | cons y ys ih =>
    simp only [needsB, Bool.and_eq_true, decide_eq_true_eq] at h
    have := ih h.2
    show l ≤ nextN (y + 1) ys
    omega

/-- Needs that rise below n are at most n. -/
theorem needsB_len {n : Int} : ∀ {l : Int} {xs : List Int}, needsB n l xs = true → (xs.length : Int) ≤ n - l ∨ xs = [] := by
  intro l xs
  induction xs generalizing l with
  | nil => intro _; exact .inr rfl
  | cons y ys ih =>
    intro h
    simp only [needsB, Bool.and_eq_true, decide_eq_true_eq] at h
    rcases ih h.2 with h1 | rfl
    · left; simp; omega
    · left; simp; omega

def taskB (n : Int) (t : TaskP) : Bool := needsB n 0 t.needs && decide (1 ≤ t.tries ∧ t.tries ≤ 8 ∧ 0 ≤ t.wait ∧ t.wait ≤ 1048576 ∧ 1 ≤ t.lease ∧ t.lease ≤ 1048576)

theorem taskB_iff (n : Int) (t : TaskP) : taskB n t = true ↔ needsB n 0 t.needs = true ∧ 1 ≤ t.tries ∧ t.tries ≤ 8 ∧ 0 ≤ t.wait ∧ t.wait ≤ 1048576 ∧ 1 ≤ t.lease ∧ t.lease ≤ 1048576 := by
  unfold taskB
  rw [Bool.and_eq_true, decide_eq_true_iff]

def tasksB (ts : List TaskP) : Bool := ts.all (taskB ts.length)

theorem tasksB_bad {ts : List TaskP} {j : Nat} {t : TaskP} (h : ts[j]? = some t) (hb : taskB ts.length t = false) : tasksB ts = false := by
  unfold tasksB
  rw [List.all_eq_false]
  exact ⟨t, List.mem_of_getElem? h, by rw [hb]; decide⟩

/-- Up to there all may be. -/
def TasksTo (n : Int) (ts : List TaskP) (j : Nat) : Prop := ∀ i t, i < j → ts[i]? = some t → taskB n t = true

theorem tasksTo_all {ts : List TaskP} (h : TasksTo ts.length ts ts.length) : tasksB ts = true := by
  unfold tasksB
  rw [List.all_eq_true]
  intro t ht
  obtain ⟨i, hi, rfl⟩ := List.getElem_of_mem ht
  exact h i _ hi (List.getElem?_eq_getElem hi)

theorem tasksTo_succ {n : Int} {ts : List TaskP} {j : Nat} {t : TaskP} (h : TasksTo n ts j) (ht : ts[j]? = some t) (hb : taskB n t = true) : TasksTo n ts (j + 1) := by
  intro i u hi hu
  by_cases hij : i = j
  · subst hij; rw [ht] at hu; cases hu; exact hb
  · exact h i u (by omega) hu

theorem tasksB_at {ts : List TaskP} (h : tasksB ts = true) {j : Nat} {t : TaskP} (ht : ts[j]? = some t) : taskB ts.length t = true := List.all_eq_true.1 h t (List.mem_of_getElem? ht)

theorem tasksB_inside {ts : List TaskP} (h : tasksB ts = true) : Inside ts := by
  intro i x hx
  unfold needsAt at hx
  cases ht : ts[i]? with
  | none => rw [ht] at hx; cases hx
  | some t =>
    rw [ht] at hx
    exact needsB_in ((taskB_iff _ _).1 (tasksB_at h ht)).1 (Int.le_refl _) x hx

def nameB (s : ByteArray) : Bool := decide (1 ≤ s.size ∧ s.size ≤ 16)

/-- Why a graph may not be. -/
def rightG (s : ByteArray) (ts : List TaskP) : Int :=
  if 10 < ts.length then 2 else if nameB s && decide (0 < ts.length) && tasksB ts then (if (orderL ts).length < ts.length then 160 else 0) else 1

theorem rightG_long {s : ByteArray} {ts : List TaskP} (h : 10 < ts.length) : rightG s ts = 2 := if_pos h
theorem rightG_arg {s : ByteArray} {ts : List TaskP} (h : ¬ 10 < ts.length) (h2 : (nameB s && decide (0 < ts.length) && tasksB ts) = false) : rightG s ts = 1 := by unfold rightG; rw [if_neg h, h2]; rfl
theorem rightG_cycle {s : ByteArray} {ts : List TaskP} (h : ¬ 10 < ts.length) (h2 : (nameB s && decide (0 < ts.length) && tasksB ts) = true) (h3 : (orderL ts).length < ts.length) : rightG s ts = 160 := by unfold rightG; rw [if_neg h, if_pos h2, if_pos h3]
theorem rightG_zero {s : ByteArray} {ts : List TaskP} (h : ¬ 10 < ts.length) (h2 : (nameB s && decide (0 < ts.length) && tasksB ts) = true) (h3 : ¬ (orderL ts).length < ts.length) : rightG s ts = 0 := by unfold rightG; rw [if_neg h, if_pos h2, if_neg h3]

theorem rightG_ok {s : ByteArray} {ts : List TaskP} (h : rightG s ts = 0) : ts.length ≤ 10 ∧ (1 ≤ s.size ∧ s.size ≤ 16) ∧ 0 < ts.length ∧ tasksB ts = true ∧ (orderL ts).length = ts.length ∧ Acyclic ts ∧ Inside ts := by
  unfold rightG at h
  split at h
  · cases h
  · split at h
    · rename_i h1 h2
      rw [Bool.and_eq_true, Bool.and_eq_true, decide_eq_true_eq] at h2
      unfold nameB at h2
      rw [decide_eq_true_eq] at h2
      split at h
      · cases h
      · rename_i h3
        have hle : (orderL ts).length ≤ ts.length := by
          have hat := ordD_at ts ts.length
          have := howMany_le (ordD ts ts.length).1
          rw [hat.many, hat.len] at this
          exact this
        have he : (orderL ts).length = ts.length := by omega
        have hi := tasksB_inside h2.2
        exact ⟨by omega, h2.1.1, h2.1.2, h2.2, he, (acyclic_iff hi).2 he, hi⟩
    · cases h

theorem rightG_is {s : ByteArray} {ts : List TaskP} (h1 : ts.length ≤ 10) (h2 : nameB s = true) (h3 : 0 < ts.length) (h4 : tasksB ts = true) (h5 : (orderL ts).length = ts.length) : rightG s ts = 0 :=
  rightG_zero (by omega) (by rw [h2, h4]; simpa using h3) (by omega)

/-- Once none is free the order stands still. -/
theorem ordD_stop {ts : List TaskP} {k : Nat} (h : freeL ts (ordD ts k).1 = []) : ∀ m, ordD ts (k + m) = ordD ts k
  | 0 => rfl
  | m + 1 => by
    have ih := ordD_stop h m
    have : freeL ts (ordD ts (k + m)).1 = [] := by rw [ih]; exact h
    rw [← Nat.add_assoc, ordD_nil this, ih]

theorem orderL_stop {ts : List TaskP} {k : Nat} (hk : k ≤ ts.length) (h : freeL ts (ordD ts k).1 = []) : orderL ts = (ordD ts k).2 := by
  have := ordD_stop h (ts.length - k)
  unfold orderL
  rw [show k + (ts.length - k) = ts.length by omega] at this
  rw [this]

end Go.Proofs.Ytmjhapkhfelbpaa.Plain

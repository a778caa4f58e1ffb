/-
  Graphs of tasks, as plain lists: free tasks, and the order in which again and again the least free one is done. Nothing of any program.
-/
import Derived.Test.YtmjhapkhfelbpaaDagPlain
namespace Go.Proofs.Ytmjhapkhfelbpaa.Plain
set_option linter.unusedVariables false

/-- Is a task free? -/
def freeB (ts : List TaskP) (done : List Bool) (i : Nat) : Bool := !onAt done i && (needsAt ts i).all fun x => onAt done x.toNat

theorem freeB_iff (ts : List TaskP) (done : List Bool) (i : Nat) : freeB ts done i = true ↔ onAt done i = false ∧ ∀ x ∈ needsAt ts i, onAt done x.toNat = true := by
  unfold freeB
  rw [Bool.and_eq_true, List.all_eq_true]
  simp

/-- All free tasks. -/
def freeL (ts : List TaskP) (done : List Bool) : List Nat := (List.range ts.length).filter (freeB ts done)

theorem mem_freeL {ts : List TaskP} {done : List Bool} {i : Nat} : i ∈ freeL ts done ↔ i < ts.length ∧ freeB ts done i = true := by
  unfold freeL
  rw [List.mem_filter, List.mem_range]

/-- So many rounds of it: what is done, and the order so far. -/
def ordD (ts : List TaskP) : Nat → List Bool × List Nat
  | 0 => (List.replicate ts.length false, [])
  | k + 1 => match freeL ts (ordD ts k).1 with
    | [] => ordD ts k
    | x :: _ => ((ordD ts k).1.set x true, (ordD ts k).2 ++ [x])

def orderL (ts : List TaskP) : List Nat := (ordD ts ts.length).2

theorem ordD_nil {ts : List TaskP} {k : Nat} (h : freeL ts (ordD ts k).1 = []) : ordD ts (k + 1) = ordD ts k := by
  show (match freeL ts (ordD ts k).1 with | [] => _ | x :: _ => _) = _
  rw [h]
theorem ordD_cons {ts : List TaskP} {k x : Nat} {l : List Nat} (h : freeL ts (ordD ts k).1 = x :: l) : ordD ts (k + 1) = ((ordD ts k).1.set x true, (ordD ts k).2 ++ [x]) := by
  show (match freeL ts (ordD ts k).1 with | [] => _ | x :: _ => _) = _
  rw [h]

/-- What holds on the way. -/
structure OrdAt (ts : List TaskP) (o : List Bool) (l : List Nat) : Prop where
  len : o.length = ts.length
  many : howMany o = l.length
  nodup : l.Nodup
  mem : ∀ x, onAt o x = true ↔ x ∈ l
  lt : ∀ x ∈ l, x < ts.length
  behind : ∀ i x, l[i]? = some x → ∀ y ∈ needsAt ts x, y.toNat ∈ l.take i

theorem ordAt_zero (ts : List TaskP) : OrdAt ts (List.replicate ts.length false) [] :=
  ⟨by simp, by unfold howMany; rw [List.countP_replicate]; rfl, by simp, fun x => by rw [onAt_zeros]; simp, by simp, by simp⟩

theorem onAt_some {o : List Bool} {x : Nat} (h : onAt o x = true) : x < o.length := by
  unfold onAt at h
  by_cases hl : x < o.length
  · exact hl
  · rw [List.getElem?_eq_none (by omega)] at h; cases h

theorem howMany_set {o : List Bool} {x : Nat} (hl : x < o.length) (h : onAt o x = false) : howMany (o.set x true) = howMany o + 1 := by
  have hx : o[x] = false := by
    unfold onAt at h
    rw [List.getElem?_eq_getElem hl] at h
    exact h
  unfold howMany
  rw [List.countP_set hl, hx]
  simp

theorem OrdAt.step {ts : List TaskP} {o : List Bool} {l : List Nat} (h : OrdAt ts o l) {x : Nat} (hx : x < ts.length) (hf : freeB ts o x = true) : OrdAt ts (o.set x true) (l ++ [x]) := by
  obtain ⟨h1, h2⟩ := (freeB_iff ts o x).1 hf
  have hn : x ∉ l := fun hm => by rw [(h.mem x).2 hm] at h1; cases h1
  refine ⟨by rw [List.length_set, h.len], ?_, ?_, fun y => ?_, fun y hy => ?_, fun i y hy z hz => ?_⟩
  · rw [howMany_set (by rw [h.len]; exact hx) h1, h.many]; simp
  · rw [List.nodup_append]
    exact ⟨h.nodup, by simp, fun a ha b hb => by simp at hb; subst hb; exact fun e => hn (e ▸ ha)⟩
  · rw [onAt_set, List.mem_append, List.mem_singleton]
    constructor
    · intro hy
      split at hy
      · rename_i hc; exact .inr hc.1.symm
      · exact .inl ((h.mem y).1 hy)
    · rintro (hy | rfl)
      · split
        · rfl
        · exact (h.mem y).2 hy
      · rw [if_pos ⟨rfl, by rw [h.len]; exact hx⟩]
  · rcases List.mem_append.1 hy with hy | hy
    · exact h.lt y hy
    · simp at hy; subst hy; exact hx
  · by_cases hi : i < l.length
    · rw [List.getElem?_append_left hi] at hy
      rw [List.take_append_of_le_length (by omega)]
      exact h.behind i y hy z hz
    · have hi2 : i = l.length := by
        have := (List.getElem?_eq_some_iff.1 hy).1
        simp at this
        omega
      subst hi2
      rw [List.getElem?_append_right (Nat.le_refl _)] at hy
      simp at hy
      subst hy
      rw [List.take_append_of_le_length (Nat.le_refl _), List.take_length]
      exact (h.mem _).1 (h2 z hz)

theorem ordD_at (ts : List TaskP) : ∀ k, OrdAt ts (ordD ts k).1 (ordD ts k).2
  | 0 => ordAt_zero ts
  | k + 1 => by
    have ih := ordD_at ts k
    cases hf : freeL ts (ordD ts k).1 with
    | nil => rw [ordD_nil hf]; exact ih
    | cons x l =>
      rw [ordD_cons hf]
      have hm := mem_freeL.1 (show x ∈ freeL ts (ordD ts k).1 by rw [hf]; simp)
      exact ih.step hm.1 hm.2

/-- Not all are done: one place is not set. -/
theorem some_left {o : List Bool} (h : howMany o < o.length) : ∃ i, i < o.length ∧ onAt o i = false := by
  refine Classical.byContradiction fun hn => ?_
  have hall : ∀ b ∈ o, id b = true := by
    intro b hb
    obtain ⟨i, hi, rfl⟩ := List.getElem_of_mem hb
    cases hc : o[i] with
    | true => rfl
    | false => exact absurd ⟨i, hi, by unfold onAt; rw [List.getElem?_eq_getElem hi]; exact hc⟩ hn
  have := List.countP_eq_length.2 hall
  unfold howMany at h
  omega

/-- Of a graph with no round one is free as long as one is left. -/
theorem free_left {ts : List TaskP} (ha : Acyclic ts) (hi : Inside ts) {o : List Bool} (hl : o.length = ts.length) (h : ∃ i, i < ts.length ∧ onAt o i = false) : freeL ts o ≠ [] := by
  obtain ⟨i, hlt, h1, h2⟩ := one_free ha hi (onAt o) h
  intro e
  have : i ∈ freeL ts o := mem_freeL.2 ⟨hlt, (freeB_iff ts o i).2 ⟨h1, h2⟩⟩
  rw [e] at this
  cases this

theorem ordD_len {ts : List TaskP} (ha : Acyclic ts) (hi : Inside ts) : ∀ k, k ≤ ts.length → (ordD ts k).2.length = k
  | 0, _ => rfl
  | k + 1, hk => by
    have ih := ordD_len ha hi k (by omega)
    have hat := ordD_at ts k
    cases hf : freeL ts (ordD ts k).1 with
    | nil => exact absurd hf (free_left ha hi hat.len (by have := some_left (o := (ordD ts k).1) (by rw [hat.many, ih, hat.len]; omega); rw [hat.len] at this; exact this))
    | cons x l => rw [ordD_cons hf]; simp [ih]

theorem orderL_len {ts : List TaskP} (ha : Acyclic ts) (hi : Inside ts) : (orderL ts).length = ts.length := ordD_len ha hi _ (Nat.le_refl _)

/-- The order up to there: what each round takes is the least free one. -/
theorem ordD_prefix {ts : List TaskP} (ha : Acyclic ts) (hi : Inside ts) (k : Nat) (hk : k < ts.length) : ∃ x l, freeL ts (ordD ts k).1 = x :: l ∧ (ordD ts (k + 1)).2 = (ordD ts k).2 ++ [x] ∧ (ordD ts (k + 1)).1 = (ordD ts k).1.set x true := by
  have h1 := ordD_len ha hi (k + 1) hk
  have h0 := ordD_len ha hi k (by omega)
  cases hf : freeL ts (ordD ts k).1 with
  | nil => rw [ordD_nil hf, h0] at h1; omega
  | cons x l => exact ⟨x, l, rfl, by rw [ordD_cons hf], by rw [ordD_cons hf]⟩

/-- All done: none is free. -/
theorem free_all {ts : List TaskP} {o : List Bool} (h : ∀ i, i < ts.length → onAt o i = true) : freeL ts o = [] := by
  refine List.eq_nil_iff_forall_not_mem.2 fun i hm => ?_
  obtain ⟨h1, h2⟩ := mem_freeL.1 hm
  have := ((freeB_iff ts o i).1 h2).1
  rw [h i h1] at this
  cases this

theorem all_done {ts : List TaskP} {o : List Bool} (hl : o.length = ts.length) (h : howMany o = ts.length) : ∀ i, i < ts.length → onAt o i = true := by
  intro i hi
  have hall : ∀ b ∈ o, id b = true := List.countP_eq_length.1 (by unfold howMany at h; omega)
  unfold onAt
  rw [List.getElem?_eq_getElem (by omega)]
  exact hall _ (List.getElem_mem _)

/-- Where no round of the order stands still, the graph has no round. -/
theorem acyclic_of_order {ts : List TaskP} {o : List Bool} {l : List Nat} (h : OrdAt ts o l) (hl : l.length = ts.length) : Acyclic ts := by
  have hall := all_done h.len (by rw [h.many, hl])
  refine acyclic_of_rank (fun x => l.idxOf x) fun i x hx => ?_
  by_cases hi : i < ts.length
  · have hm : i ∈ l := (h.mem i).1 (hall i hi)
    have hlt := List.idxOf_lt_length_of_mem hm
    have hb := h.behind (l.idxOf i) i (by rw [List.getElem?_eq_getElem hlt]; simp) x hx
    have h2 : List.idxOf x.toNat (l.take (l.idxOf i)) < (l.take (l.idxOf i)).length := List.idxOf_lt_length_of_mem hb
    have h3 : l.idxOf x.toNat = (l.take (l.idxOf i)).idxOf x.toNat := by
      conv => lhs; rw [← List.take_append_drop (l.idxOf i) l]
      rw [List.idxOf_append, if_pos hb]
    rw [List.length_take] at h2
    show l.idxOf x.toNat < l.idxOf i
    omega
  · exfalso
    unfold needsAt at hx
    rw [List.getElem?_eq_none (by omega)] at hx
    cases hx

theorem acyclic_iff {ts : List TaskP} (hi : Inside ts) : Acyclic ts ↔ (orderL ts).length = ts.length :=
  ⟨fun ha => orderL_len ha hi, fun h => acyclic_of_order (ordD_at ts ts.length) h⟩

theorem cyclic_iff {ts : List TaskP} (hi : Inside ts) : Acyclic ts ↔ ∀ i, i < ts.length → onAt (reachL ts i) i = false := by
  constructor
  · intro ha i _
    cases h : onAt (reachL ts i) i with
    | false => rfl
    | true => exact absurd ((reach_iff hi i i).1 h) (ha i)
  · intro h i hw
    have := h i (way_lt hi hw)
    rw [(reach_iff hi i i).2 hw] at this
    cases this

/-- As more is done: what was free stays so, but for what was done now. -/
theorem free_more {ts : List TaskP} {o : List Bool} {x y : Nat} (hne : y ≠ x) (h : freeB ts o y = true) : freeB ts (o.set x true) y = true := by
  obtain ⟨h1, h2⟩ := (freeB_iff ts o y).1 h
  refine (freeB_iff ts _ y).2 ⟨by rw [onAt_set, if_neg (fun e => hne e.1.symm)]; exact h1, fun z hz => ?_⟩
  rw [onAt_set]
  split
  · rfl
  · exact h2 z hz

/-- What gets free needed what was done. -/
theorem free_needs {ts : List TaskP} {o : List Bool} {x y : Nat} (hi : Inside ts) (h : freeB ts (o.set x true) y = true) (h0 : freeB ts o y = false) : (x : Int) ∈ needsAt ts y := by
  obtain ⟨h1, h2⟩ := (freeB_iff ts _ y).1 h
  refine Classical.byContradiction fun hn => ?_
  have : freeB ts o y = true := by
    refine (freeB_iff ts o y).2 ⟨?_, fun z hz => ?_⟩
    · rw [onAt_set] at h1
      split at h1
      · cases h1
      · exact h1
    · have := h2 z hz
      rw [onAt_set] at this
      split at this
      · rename_i hc
        exfalso
        apply hn
        rw [hc.1, Int.toNat_of_nonneg (hi y z hz).1]
        exact hz
      · exact this
  rw [this] at h0
  cases h0

end Go.Proofs.Ytmjhapkhfelbpaa.Plain

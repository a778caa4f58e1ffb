/-
  A region whose operations come up in whatever order, by one invariant: what each operation's slot holds once it has come up. Nothing of any program.
-/
import Derived.Orders
import Derived.WalkKit
import Derived.Below
namespace Go.Proofs.Ytnipikdlfmcheaa.Anylast
open Go

/-- Each operation waits for earlier ones alone (what only the collector sees binds nobody), has a slot of its own, and that slot is there. -/
def fit (ops : Array Oper) (n : Nat) : Bool :=
  (List.range ops.size).all fun i => match ops[i]? with
    | none => true
    | some o => (o.after.toList.all fun e => !Region.binds .any e || decide (e.on < i)) &&
      match o.dst with
      | none => true
      | some d => decide (d < n) && (List.range ops.size).all fun j => match ops[j]? with
        | none => true
        | some oj => oj.dst != some d || j == i

theorem fit_spec {ops : Array Oper} {n : Nat} (h : fit ops n = true) {i : Nat} {o : Oper} (hi : ops[i]? = some o) :
    (∀ e ∈ o.after, Region.binds .any e = true → e.on < i) ∧ ∀ d, o.dst = some d → d < n ∧ ∀ j oj, ops[j]? = some oj → oj.dst = some d → j = i := by
  have hlt : i < ops.size := (Array.getElem?_eq_some_iff.1 hi).1
  unfold fit at h
  rw [List.all_eq_true] at h
  have h1 := h i (List.mem_range.2 hlt)
  rw [hi] at h1
  simp only [Bool.and_eq_true, List.all_eq_true] at h1
  obtain ⟨ha, hb⟩ := h1
  refine ⟨fun e he hbn => ?_, fun d hd => ?_⟩
  · have h3 := ha e (Array.mem_toList_iff.2 he)
    rw [hbn] at h3
    simpa using h3
  rw [hd] at hb
  simp only [Bool.and_eq_true, List.all_eq_true, decide_eq_true_eq] at hb
  refine ⟨hb.1, fun j oj hj hdj => ?_⟩
  have hjlt : j < ops.size := (Array.getElem?_eq_some_iff.1 hj).1
  have h2 := hb.2 j (List.mem_range.2 hjlt)
  rw [hj] at h2
  simp only [hdj] at h2
  simpa using h2

/-- Operation o waits for number j. -/
def waits (o : Oper) (j : Nat) : Bool := o.after.toList.any fun e => Region.binds .any e && e.on == j

theorem waits_spec {o : Oper} {j : Nat} : waits o j = true ↔ ∃ e ∈ o.after, Region.binds .any e = true ∧ e.on = j := by
  unfold waits
  rw [List.any_eq_true]
  constructor
  · rintro ⟨e, he, h⟩
    rw [Bool.and_eq_true, beq_iff_eq] at h
    exact ⟨e, Array.mem_toList_iff.1 he, h.1, h.2⟩
  · rintro ⟨e, he, h1, h2⟩
    exact ⟨e, Array.mem_toList_iff.2 he, by rw [Bool.and_eq_true, beq_iff_eq]; exact ⟨h1, h2⟩⟩

/-- Nobody writes slot d ahead of number i. -/
def free (ops : Array Oper) (i d : Nat) : Bool :=
  (List.range ops.size).all fun j => match ops[j]? with
    | none => true
    | some oj => oj.dst != some d || j == i || waits oj i

theorem free_spec {ops : Array Oper} {i d : Nat} (h : free ops i d = true) {j : Nat} {oj : Oper} (hj : ops[j]? = some oj) (hd : oj.dst = some d) : j = i ∨ ∃ e ∈ oj.after, Region.binds .any e = true ∧ e.on = i := by
  unfold free at h
  rw [List.all_eq_true] at h
  have h1 := h j (List.mem_range.2 (Array.getElem?_eq_some_iff.1 hj).1)
  rw [hj] at h1
  simp only [hd] at h1
  rw [← waits_spec]
  simpa using h1

/-- What holds while they come up. -/
def Amid (ops : Array Oper) (a0 : Act) (V : Nat → Value → World → Prop) (S : Array Bool → World → Prop) (listed : Array Bool) (a : Act) (w : World) : Prop :=
  (S listed w) ∧
  (a.defers = a0.defers) ∧
  (a.tmps.size = a0.tmps.size) ∧
  (listed.size = ops.size) ∧
  (∀ (j : Nat) (oj : Oper), ops[j]? = some oj → listed.getD j false = true → ∀ e ∈ oj.after, Region.binds .any e = true → listed.getD e.on false = true) ∧
  (∀ d : Nat, (∀ (j : Nat) (oj : Oper), ops[j]? = some oj → oj.dst = some d → listed.getD j false = false) → a.tmps[d]? = a0.tmps[d]?) ∧
  (∀ (j : Nat) (oj : Oper) (d : Nat), ops[j]? = some oj → oj.dst = some d → listed.getD j false = true → ∃ v, a.tmps[d]? = some v ∧ V j v w)

theorem Amid.held {ops : Array Oper} {a0 : Act} {V : Nat → Value → World → Prop} {S : Array Bool → World → Prop} {listed : Array Bool} {a : Act} {w : World} (h : Amid ops a0 V S listed a w) : S listed w := h.1

theorem Amid.defers {ops : Array Oper} {a0 : Act} {V : Nat → Value → World → Prop} {S : Array Bool → World → Prop} {listed : Array Bool} {a : Act} {w : World} (h : Amid ops a0 V S listed a w) : a.defers = a0.defers := h.2.1

theorem Amid.size {ops : Array Oper} {a0 : Act} {V : Nat → Value → World → Prop} {S : Array Bool → World → Prop} {listed : Array Bool} {a : Act} {w : World} (h : Amid ops a0 V S listed a w) : a.tmps.size = a0.tmps.size := h.2.2.1

theorem Amid.lsize {ops : Array Oper} {a0 : Act} {V : Nat → Value → World → Prop} {S : Array Bool → World → Prop} {listed : Array Bool} {a : Act} {w : World} (h : Amid ops a0 V S listed a w) : listed.size = ops.size := h.2.2.2.1

theorem Amid.closed {ops : Array Oper} {a0 : Act} {V : Nat → Value → World → Prop} {S : Array Bool → World → Prop} {listed : Array Bool} {a : Act} {w : World} (h : Amid ops a0 V S listed a w) : ∀ (j : Nat) (oj : Oper), ops[j]? = some oj → listed.getD j false = true → ∀ e ∈ oj.after, Region.binds .any e = true → listed.getD e.on false = true := h.2.2.2.2.1

theorem Amid.same {ops : Array Oper} {a0 : Act} {V : Nat → Value → World → Prop} {S : Array Bool → World → Prop} {listed : Array Bool} {a : Act} {w : World} (h : Amid ops a0 V S listed a w) : ∀ d : Nat, (∀ (j : Nat) (oj : Oper), ops[j]? = some oj → oj.dst = some d → listed.getD j false = false) → a.tmps[d]? = a0.tmps[d]? := h.2.2.2.2.2.1

theorem Amid.val {ops : Array Oper} {a0 : Act} {V : Nat → Value → World → Prop} {S : Array Bool → World → Prop} {listed : Array Bool} {a : Act} {w : World} (h : Amid ops a0 V S listed a w) : ∀ (j : Nat) (oj : Oper) (d : Nat), ops[j]? = some oj → oj.dst = some d → listed.getD j false = true → ∃ v, a.tmps[d]? = some v ∧ V j v w := h.2.2.2.2.2.2

theorem getD_set (listed : Array Bool) (i j : Nat) (hi : i < listed.size) (b : Bool) : (listed.setIfInBounds i true).getD j b = if j = i then true else listed.getD j b := by
  simp only [Array.getD_eq_getD_getElem?, Array.getElem?_setIfInBounds]
  by_cases h : i = j
  · subst h; simp [hi]
  · rw [if_neg h, if_neg (fun e => h e.symm)]

/-- How many are still to come. -/
def left (listed : Array Bool) : Nat := listed.toList.countP (fun b => !b)

theorem left_set (listed : Array Bool) (i : Nat) (hi : i < listed.size) (h : listed.getD i true = false) : left (listed.setIfInBounds i true) + 1 = left listed := by
  unfold left
  rw [Array.toList_setIfInBounds]
  have hl : i < listed.toList.length := by simpa using hi
  have hv : listed.toList[i] = false := by
    simp only [Array.getD_eq_getD_getElem?, Array.getElem?_eq_getElem hi, Option.getD_some] at h
    simpa using h
  have hpos : 0 < listed.toList.countP (fun b => !b) := by
    rw [List.countP_pos_iff]
    exact ⟨false, by rw [← hv]; exact List.getElem_mem hl, rfl⟩
  rw [List.countP_set hl, hv]
  have e1 : (!false) = true := rfl
  have e2 : (!true) = false := rfl
  simp only [e1, e2, if_true, Bool.false_eq_true, if_false, Nat.add_zero]
  omega

theorem getD_both {listed : Array Bool} {i : Nat} (hi : i < listed.size) (b c : Bool) : listed.getD i b = listed.getD i c := by
  simp [Array.getD_eq_getD_getElem?, hi]

/-- THE RULE. -/
theorem any_inv {P : Program} {ops : Array Oper} {Q : Exit → Act → World → Prop} {a0 : Act} (V : Nat → Value → World → Prop) (S : Array Bool → World → Prop) (R : World → World → Prop)
    (hfit : fit ops a0.tmps.size = true)
    (hmono : ∀ i v w w', R w w' → V i v w → V i v w')
    (hstep : ∀ i o, ops[i]? = some o → ∀ listed a w, i < listed.size → listed.getD i false = false → (∀ (j : Nat) (oj : Oper), ops[j]? = some oj → listed.getD j false = true → ∀ e ∈ oj.after, Region.binds .any e = true → listed.getD e.on false = true) → (∀ e ∈ o.after, Region.binds .any e = true → listed.getD e.on false = true) → S listed w → a.defers = a0.defers → a.tmps.size = a0.tmps.size →
      (∀ j oj d, ops[j]? = some oj → oj.dst = some d → waits o j = true → ∃ v, a.tmps[d]? = some v ∧ V j v w) →
      (∀ d, free ops i d = true → a.tmps[d]? = a0.tmps[d]?) →
      wpOp P ops Q i (fun a' w' => ∃ v, a' = a.put o.dst v ∧ V i v w' ∧ S (listed.setIfInBounds i true) w' ∧ R w w') a w)
    (hdone : ∀ listed a w, (∀ i, i < ops.size → listed.getD i false = true) → S listed w → a.defers = a0.defers → a.tmps.size = a0.tmps.size →
      (∀ d, (∀ (j : Nat) (oj : Oper), ops[j]? = some oj → oj.dst ≠ some d) → a.tmps[d]? = a0.tmps[d]?) →
      (∀ j oj d, ops[j]? = some oj → oj.dst = some d → ∃ v, a.tmps[d]? = some v ∧ V j v w) → Q .normal a w) :
    ∀ (fuel : Nat) (listed : Array Bool) (a : Act) (w : World), left listed = fuel → Amid ops a0 V S listed a w → wpAny P .any ops Q fuel listed a w := by
  have hend : ∀ (listed : Array Bool) (a : Act) (w : World), Amid ops a0 V S listed a w → Region.ready .any ops listed = [] → Q .normal a w := by
    intro listed a w hI hr
    have hall : ∀ i, i < ops.size → listed.getD i false = true := by
      intro i
      induction i using Nat.strongRecOn with
      | _ i ih =>
        intro hi
        have hi' : i < listed.size := by rw [hI.lsize]; exact hi
        cases hc : listed.getD i false with
        | true => rfl
        | false =>
          exfalso
          have hm : i ∈ Region.ready .any ops listed := by
            rw [mem_ready]
            refine ⟨by rw [getD_both hi' true false]; exact hc, _, Array.getElem?_eq_getElem hi, fun e he hbn => ?_⟩
            have hlt := (fit_spec hfit (Array.getElem?_eq_getElem hi)).1 e he hbn
            exact ih e.on hlt (by omega)
          rw [hr] at hm
          cases hm
    refine hdone listed a w hall hI.held hI.defers hI.size (fun d hd => hI.same d fun j oj hj hdj => absurd hdj (hd j oj hj)) fun j oj d hj hd => hI.val j oj d hj hd (hall j (Array.getElem?_eq_some_iff.1 hj).1)
  have hone : ∀ (listed : Array Bool) (a : Act) (w : World) (i : Nat), Amid ops a0 V S listed a w → i ∈ Region.ready .any ops listed → wpOp P ops Q i (Amid ops a0 V S (listed.setIfInBounds i true)) a w := by
    intro listed a w i hI hi
    obtain ⟨h0, o, ho, hall⟩ := mem_ready.1 hi
    have hlt : i < ops.size := (Array.getElem?_eq_some_iff.1 ho).1
    have hlt' : i < listed.size := by rw [hI.lsize]; exact hlt
    have h0' : listed.getD i false = false := by rw [getD_both hlt' false true]; exact h0
    obtain ⟨_, hdst⟩ := fit_spec hfit ho
    refine wpOp_mono ?_ (hstep i o ho listed a w hlt' h0' hI.closed hall hI.held hI.defers hI.size ?_ ?_)
    · rintro a' w' ⟨v, rfl, hV, hS, hR⟩
      refine ⟨hS, ?_, ?_, by rw [Array.size_setIfInBounds]; exact hI.lsize, ?_, ?_, ?_⟩
      · cases hd : o.dst <;> exact hI.defers
      · cases hd : o.dst with
        | none => exact hI.size
        | some d => simpa [Act.put] using hI.size
      · intro j oj hj hl e he hb
        rw [getD_set _ _ _ hlt']
        by_cases hji : j = i
        · subst hji
          rw [ho] at hj
          cases hj
          have := hall e he hb
          split
          · rfl
          · exact this
        · rw [getD_set _ _ _ hlt', if_neg hji] at hl
          split
          · rfl
          · exact hI.closed j oj hj hl e he hb
      · intro d hd
        have hne : o.dst ≠ some d := by
          intro e
          have := hd i o ho e
          rw [getD_set _ _ _ hlt', if_pos rfl] at this
          cases this
        have hs := hI.same d fun j oj hj hdj => by
          have h := hd j oj hj hdj
          rw [getD_set _ _ _ hlt'] at h
          split at h
          · cases h
          · exact h
        cases hdd : o.dst with
        | none => exact hs
        | some d' =>
          have : d' ≠ d := fun e => hne (by rw [hdd, e])
          simp only [Act.put]
          rw [Array.getElem?_setIfInBounds_ne this]
          exact hs
      · intro j oj d hj hd hl
        by_cases hji : j = i
        · subst hji
          rw [ho] at hj
          cases hj
          refine ⟨v, ?_, hV⟩
          rw [hd]
          have := (hdst d hd).1
          simp only [Act.put]
          rw [Array.getElem?_setIfInBounds_self_of_lt (by rw [hI.size]; exact this)]
        · rw [getD_set _ _ _ hlt', if_neg hji] at hl
          obtain ⟨u, hu, hVu⟩ := hI.val j oj d hj hd hl
          refine ⟨u, ?_, hmono j u _ _ hR hVu⟩
          cases hdd : o.dst with
          | none => exact hu
          | some d' =>
            have : d' ≠ d := fun e => hji ((hdst d' hdd).2 j oj hj (by rw [hd, e]))
            simp only [Act.put]
            rw [Array.getElem?_setIfInBounds_ne this]
            exact hu
    · intro j oj d hj hd hwt
      obtain ⟨e, he, hb, rfl⟩ := waits_spec.1 hwt
      exact hI.val _ oj d hj hd (hall e he hb)
    · intro d hd
      refine hI.same d fun j oj hj hdj => ?_
      cases hc : listed.getD j false with
      | false => rfl
      | true =>
        exfalso
        rcases free_spec hd hj hdj with hji | ⟨e, he, hb, hei⟩
        · subst hji
          rw [h0'] at hc
          cases hc
        · have := hI.closed j oj hj hc e he hb
          rw [hei, h0'] at this
          cases this
  intro fuel
  induction fuel with
  | zero =>
    intro listed a w hl hI
    have hr : Region.ready .any ops listed = [] := by
      cases hr : Region.ready .any ops listed with
      | nil => rfl
      | cons i r =>
        exfalso
        have hi : i ∈ Region.ready .any ops listed := by rw [hr]; exact List.mem_cons_self
        obtain ⟨h0, o, ho, _⟩ := mem_ready.1 hi
        have hlt : i < listed.size := by rw [hI.lsize]; exact (Array.getElem?_eq_some_iff.1 ho).1
        have := left_set listed i hlt h0
        omega
    exact ⟨hr, hend listed a w hI hr⟩
  | succ fuel ih =>
    intro listed a w hl hI
    refine ⟨hend listed a w hI, fun i hi => ?_⟩
    obtain ⟨h0, o, ho, _⟩ := mem_ready.1 hi
    have hlt : i < listed.size := by rw [hI.lsize]; exact (Array.getElem?_eq_some_iff.1 ho).1
    have hls := left_set listed i hlt h0
    exact wpOp_mono (fun a' w' h' => ih _ a' w' (by omega) h') (hone listed a w i hI hi)

/-- THE RULE, of a region. -/
theorem region_inv {P : Program} {ops : Array Oper} {Q : Exit → Act → World → Prop} {id : Nat} {a0 : Act} {w0 : World} (hm : P.follows .mixedOrders = true) (V : Nat → Value → World → Prop) (S : Array Bool → World → Prop) (R : World → World → Prop)
    (hfit : fit ops a0.tmps.size = true)
    (hmono : ∀ i v w w', R w w' → V i v w → V i v w')
    (hS : S (Array.replicate ops.size false) w0.drew)
    (hstep : ∀ i o, ops[i]? = some o → ∀ listed a w, i < listed.size → listed.getD i false = false → (∀ (j : Nat) (oj : Oper), ops[j]? = some oj → listed.getD j false = true → ∀ e ∈ oj.after, Region.binds .any e = true → listed.getD e.on false = true) → (∀ e ∈ o.after, Region.binds .any e = true → listed.getD e.on false = true) → S listed w → a.defers = a0.defers → a.tmps.size = a0.tmps.size →
      (∀ j oj d, ops[j]? = some oj → oj.dst = some d → waits o j = true → ∃ v, a.tmps[d]? = some v ∧ V j v w) →
      (∀ d, free ops i d = true → a.tmps[d]? = a0.tmps[d]?) →
      wpOp P ops Q i (fun a' w' => ∃ v, a' = a.put o.dst v ∧ V i v w' ∧ S (listed.setIfInBounds i true) w' ∧ R w w') a w)
    (hdone : ∀ listed a w, (∀ i, i < ops.size → listed.getD i false = true) → S listed w → a.defers = a0.defers → a.tmps.size = a0.tmps.size →
      (∀ d, (∀ (j : Nat) (oj : Oper), ops[j]? = some oj → oj.dst ≠ some d) → a.tmps[d]? = a0.tmps[d]?) →
      (∀ j oj d, ops[j]? = some oj → oj.dst = some d → ∃ v, a.tmps[d]? = some v ∧ V j v w) → Q .normal a w) :
    (Code.region id ops true).wp P Q a0 w0 := by
  refine wp_region_any hm (any_inv V S R hfit hmono hstep hdone ops.size (Array.replicate ops.size false) a0 _ ?_ ?_)
  · unfold left
    rw [Array.toList_replicate, List.countP_replicate]
    simp
  · have hf : ∀ j, (Array.replicate ops.size false).getD j false = false := by
      intro j
      simp only [Array.getD_eq_getD_getElem?, Array.getElem?_replicate]
      split <;> rfl
    refine ⟨hS, rfl, rfl, by simp, ?_, fun d _ => rfl, ?_⟩
    · intro j oj _ hl
      rw [hf] at hl
      cases hl
    · intro j oj d _ _ hl
      rw [hf] at hl
      cases hl

/-- An operation behind '&&' whose guard is true. -/
theorem wanted_by {ops : Array Oper} {o : Oper} {tmps : Array Value} (g : Nat) (b : Bool) (d : Nat) (h : o.guard = some (g, b)) (hd : (ops[g]?).bind (·.dst) = some d) (hv : tmps[d]? = some (.bool b)) :
    Region.wanted o (yielded ops tmps) = true := by
  unfold Region.wanted yielded
  rw [h]
  simp [hd, hv]

theorem wanted_free {ops : Array Oper} {o : Oper} {tmps : Array Value} (h : o.guard = none) : Region.wanted o (yielded ops tmps) = true := by
  unfold Region.wanted
  rw [h]

theorem eval_tmp {a : Act} {d : Nat} {v : Value} (h : a.tmps[d]? = some v) : a.eval (.tmp d) = v := by
  simp [Act.eval, h]

/-- One operation that runs to its end. -/
theorem op_value {P : Program} {ops : Array Oper} {Q : Exit → Act → World → Prop} {i : Nat} {o : Oper} {a : Act} {w w' : World} {v : Value} {V : Nat → Value → World → Prop} {S : World → Prop} {R : World → World → Prop} (hi : ops[i]? = some o) (hw : Region.wanted o (yielded ops a.tmps) = true)
    (hr : (execOp a.eval o).run P w = .ok (.value v) w') (hV : V i v w') (hS : S w') (hR : R w w') :
    wpOp P ops Q i (fun a' w' => ∃ v, a' = a.put o.dst v ∧ V i v w' ∧ S w' ∧ R w w') a w := by
  unfold wpOp
  simp only [hi, hw, if_true]
  refine .inl ?_
  unfold Oper.wp
  rw [hr]
  exact ⟨v, rfl, hV, hS, hR⟩

/-- One call, by its contract. -/
theorem op_call {P : Program} {ops : Array Oper} {Q : Exit → Act → World → Prop} {i : Nat} {o : Oper} {a : Act} {w w' : World} {f : FuncId} {args : Array Value} {V : Nat → Value → World → Prop} {S : World → Prop} {R : World → World → Prop} (hi : ops[i]? = some o) (hw : Region.wanted o (yielded ops a.tmps) = true)
    (hr : (execOp a.eval o).run P w = .ok (.enter f args) w')
    (hc : Calls P f args w' fun e w'' => ∃ v, e = .returned v ∧ V i v w'' ∧ S w'' ∧ R w w'') :
    wpOp P ops Q i (fun a' w' => ∃ v, a' = a.put o.dst v ∧ V i v w' ∧ S w' ∧ R w w') a w := by
  unfold wpOp
  simp only [hi, hw, if_true]
  refine .inl ?_
  unfold Oper.wp
  rw [hr]
  refine Calls.mono hc ?_
  rintro e w'' ⟨v, rfl, hV, hS, hR⟩
  exact ⟨v, rfl, hV, hS, hR⟩

/-- Whether one operation waits for all others. -/
def lasts (ops : Array Oper) (l : Nat) : Bool :=
  match ops[l]? with
  | some o => (List.range ops.size).all fun i => i == l || waits o i
  | none => false

theorem lasts_spec {ops : Array Oper} {l : Nat} (h : lasts ops l = true) : ∃ o, ops[l]? = some o ∧ ∀ i, i < ops.size → i ≠ l → ∃ e ∈ o.after, Region.binds .any e = true ∧ e.on = i := by
  unfold lasts at h
  split at h
  · rename_i o ho
    refine ⟨o, ho, fun i hi hn => ?_⟩
    rw [List.all_eq_true] at h
    have := h i (List.mem_range.2 hi)
    rw [← waits_spec]
    simpa [hn] using this
  · cases h

/-- THE RULE, of a region whose last operation waits for all others: one invariant ahead of it, another one behind it. -/
theorem region_last {P : Program} {ops : Array Oper} {Q : Exit → Act → World → Prop} {id : Nat} {a0 : Act} {w0 : World} (hm : P.follows .mixedOrders = true) (l : Nat) (V : Nat → Value → World → Prop) (S T : World → Prop) (R : World → World → Prop)
    (hfit : fit ops a0.tmps.size = true) (hlast : lasts ops l = true)
    (hmono : ∀ i v w w', R w w' → V i v w → V i v w')
    (hS : S w0.drew)
    (hstep : ∀ i o, ops[i]? = some o → ∀ a w, S w → a.defers = a0.defers → a.tmps.size = a0.tmps.size →
      (∀ j oj d, ops[j]? = some oj → oj.dst = some d → waits o j = true → ∃ v, a.tmps[d]? = some v ∧ V j v w) →
      (∀ d, free ops i d = true → a.tmps[d]? = a0.tmps[d]?) →
      wpOp P ops Q i (fun a' w' => ∃ v, a' = a.put o.dst v ∧ V i v w' ∧ (if i = l then T else S) w' ∧ R w w') a w)
    (hdone : ∀ a w, T w → a.defers = a0.defers → a.tmps.size = a0.tmps.size →
      (∀ d, (∀ (j : Nat) (oj : Oper), ops[j]? = some oj → oj.dst ≠ some d) → a.tmps[d]? = a0.tmps[d]?) →
      (∀ j oj d, ops[j]? = some oj → oj.dst = some d → ∃ v, a.tmps[d]? = some v ∧ V j v w) → Q .normal a w) :
    (Code.region id ops true).wp P Q a0 w0 := by
  obtain ⟨ol, hol, hwl⟩ := lasts_spec hlast
  have hll : l < ops.size := (Array.getElem?_eq_some_iff.1 hol).1
  refine region_inv hm V (fun listed w => if listed.getD l false = true then T w else S w) R hfit hmono ?_ ?_ ?_
  · have hf : (Array.replicate ops.size false).getD l false = false := by
      simp only [Array.getD_eq_getD_getElem?, Array.getElem?_replicate]
      split <;> rfl
    simp only [hf, Bool.false_eq_true, if_false]
    exact hS
  · intro i o ho listed a w hil h0 hcl _ hs hdf hsz hdep hsame
    have hnl : listed.getD l false = false := by
      by_cases hi : i = l
      · rw [← hi]; exact h0
      · cases hc : listed.getD l false with
        | false => rfl
        | true =>
          obtain ⟨e, he, hb, hei⟩ := hwl i (Array.getElem?_eq_some_iff.1 ho).1 hi
          have := hcl l ol hol hc e he hb
          rw [hei, h0] at this
          cases this
    simp only [hnl, Bool.false_eq_true, if_false] at hs
    refine wpOp_mono ?_ (hstep i o ho a w hs hdf hsz hdep hsame)
    rintro a' w' ⟨v, h1, h2, h3, h4⟩
    refine ⟨v, h1, h2, ?_, h4⟩
    show if _ then _ else _
    rw [getD_set _ _ _ hil]
    by_cases hi : l = i
    · rw [if_pos hi, if_pos rfl]
      rw [if_pos hi.symm] at h3
      exact h3
    · rw [if_neg hi, if_neg (by rw [hnl]; decide)]
      rw [if_neg (fun h => hi h.symm)] at h3
      exact h3
  · intro listed a w hall hs
    rw [if_pos (hall l hll)] at hs
    exact hdone a w hs

/-- The frame once the first so many operations have yielded their values. -/
def filledN (ops : Array Oper) (val : Nat → Value) (tmps : Array Value) : Nat → Array Value
  | 0 => tmps
  | n + 1 =>
    match (ops[n]?).bind (·.dst) with
    | some d => (filledN ops val tmps n).setIfInBounds d (val n)
    | none => filledN ops val tmps n

theorem filledN_size (ops : Array Oper) (val : Nat → Value) (tmps : Array Value) (n : Nat) : (filledN ops val tmps n).size = tmps.size := by
  induction n with
  | zero => rfl
  | succ n ih =>
    unfold filledN
    split
    · rw [Array.size_setIfInBounds]; exact ih
    · exact ih

theorem filledN_none {ops : Array Oper} {val : Nat → Value} {tmps : Array Value} {d : Nat} (n : Nat) (h : ∀ (j : Nat) (oj : Oper), j < n → ops[j]? = some oj → oj.dst ≠ some d) : (filledN ops val tmps n)[d]? = tmps[d]? := by
  induction n with
  | zero => rfl
  | succ n ih =>
    have ih' := ih fun j oj hj => h j oj (by omega)
    unfold filledN
    split
    · rename_i d' hd'
      obtain ⟨o, ho, hod⟩ := Option.bind_eq_some_iff.1 hd'
      rw [Array.getElem?_setIfInBounds_ne (fun e => h n o (by omega) ho (by rw [hod, e]))]
      exact ih'
    · exact ih'

theorem filledN_some {ops : Array Oper} {val : Nat → Value} {tmps : Array Value} {d j : Nat} {oj : Oper} (hj : ops[j]? = some oj) (hd : oj.dst = some d) (hlt : d < tmps.size) (hun : ∀ (i : Nat) (oi : Oper), ops[i]? = some oi → oi.dst = some d → i = j) (n : Nat) (hn : j < n) :
    (filledN ops val tmps n)[d]? = some (val j) := by
  induction n with
  | zero => omega
  | succ n ih =>
    unfold filledN
    by_cases hjn : j = n
    · subst hjn
      have e : (ops[j]?).bind (·.dst) = some d := by rw [hj]; exact hd
      rw [e]
      simp only
      rw [Array.getElem?_setIfInBounds_self_of_lt (by rw [filledN_size]; exact hlt)]
    · have ih' := ih (by omega)
      split
      · rename_i d' hd'
        obtain ⟨o, ho, hod⟩ := Option.bind_eq_some_iff.1 hd'
        rw [Array.getElem?_setIfInBounds_ne (fun e => hjn (hun n o ho (by rw [hod, e])).symm)]
        exact ih'
      · exact ih'

/-- THE RULE, where each operation yields a value that is known ahead: so is the frame behind the region. -/
theorem region_vals {P : Program} {ops : Array Oper} {Q : Exit → Act → World → Prop} {id : Nat} {a0 : Act} {w0 : World} (hm : P.follows .mixedOrders = true) (l : Nat) (val : Nat → Value) (S T : World → Prop)
    (hfit : fit ops a0.tmps.size = true) (hlast : lasts ops l = true)
    (hS : S w0.drew)
    (hstep : ∀ i o, ops[i]? = some o → ∀ a w, S w → a.defers = a0.defers → a.tmps.size = a0.tmps.size →
      (∀ j oj d, ops[j]? = some oj → oj.dst = some d → waits o j = true → a.tmps[d]? = some (val j)) →
      (∀ d, free ops i d = true → a.tmps[d]? = a0.tmps[d]?) →
      wpOp P ops Q i (fun a' w' => ∃ v, a' = a.put o.dst v ∧ (o.dst.isSome = true → v = val i) ∧ (if i = l then T else S) w' ∧ True) a w)
    (n : Nat) (hn : ops.size = n) (hdone : ∀ w, T w → Q .normal ⟨filledN ops val a0.tmps n, a0.defers⟩ w) :
    (Code.region id ops true).wp P Q a0 w0 := by
  refine region_last hm l (fun i v _ => ∀ o, ops[i]? = some o → o.dst.isSome = true → v = val i) S T (fun _ _ => True) hfit hlast (fun i v w w' _ h => h) hS ?_ ?_
  · intro i o ho a w hs hdf hsz hdep hsame
    refine wpOp_mono ?_ (hstep i o ho a w hs hdf hsz ?_ hsame)
    · rintro a' w' ⟨v, h1, h2, h3, _⟩
      refine ⟨v, h1, fun o' ho' hd' => ?_, h3, trivial⟩
      rw [ho] at ho'
      cases ho'
      exact h2 hd'
    · intro j oj d hj hd hw
      obtain ⟨v, hv, hV⟩ := hdep j oj d hj hd hw
      rw [hv, hV oj hj (by rw [hd]; rfl)]
  · intro a w ht hdf hsz hsame hval
    have e : a = ⟨filledN ops val a0.tmps ops.size, a0.defers⟩ := by
      obtain ⟨tm, df⟩ := a
      simp only at hdf hsz hsame hval
      subst hdf
      congr 1
      apply Array.ext_getElem?
      intro d
      by_cases hx : ∃ (j : Nat) (oj : Oper), ops[j]? = some oj ∧ oj.dst = some d
      · obtain ⟨j, oj, hj, hd⟩ := hx
        obtain ⟨v, hv, hV⟩ := hval j oj d hj hd
        rw [hv, hV oj hj (by rw [hd]; rfl)]
        obtain ⟨hdl, hun⟩ := (fit_spec hfit hj).2 d hd
        exact (filledN_some hj hd hdl (fun i oi hi hdi => hun i oi hi hdi) _ (Array.getElem?_eq_some_iff.1 hj).1).symm
      · rw [hsame d fun j oj hj hd => hx ⟨j, oj, hj, hd⟩]
        exact (filledN_none _ fun j oj _ hj hd => hx ⟨j, oj, hj, hd⟩).symm
    rw [e, hn]
    exact hdone w ht

/-- One operation of such a region. -/
theorem val_op {P : Program} {ops : Array Oper} {Q : Exit → Act → World → Prop} {i : Nat} {o : Oper} {a : Act} {w w' : World} {v u : Value} {S : World → Prop} (hi : ops[i]? = some o) (hw : Region.wanted o (yielded ops a.tmps) = true)
    (hr : (execOp a.eval o).run P w = .ok (.value v) w') (hv : v = u) (hS : S w') :
    wpOp P ops Q i (fun a' w' => ∃ v, a' = a.put o.dst v ∧ (o.dst.isSome = true → v = u) ∧ S w' ∧ True) a w := by
  unfold wpOp
  simp only [hi, hw, if_true]
  refine .inl ?_
  unfold Oper.wp
  rw [hr]
  exact ⟨v, rfl, fun _ => hv, hS, trivial⟩

theorem val_skip {P : Program} {ops : Array Oper} {Q : Exit → Act → World → Prop} {i : Nat} {o : Oper} {a : Act} {w w' : World} {u : Value} {S : World → Prop} (hi : ops[i]? = some o) (hw : Region.wanted o (yielded ops a.tmps) = true) (hd : o.dst = none)
    (hr : (execOp a.eval o).run P w = .ok .skip w') (hS : S w') :
    wpOp P ops Q i (fun a' w' => ∃ v, a' = a.put o.dst v ∧ (o.dst.isSome = true → v = u) ∧ S w' ∧ True) a w := by
  unfold wpOp
  simp only [hi, hw, if_true]
  refine .inl ?_
  unfold Oper.wp
  rw [hr]
  refine ⟨undef, ?_, (fun h => by rw [hd] at h; cases h), hS, trivial⟩
  rw [hd]

theorem val_call {P : Program} {ops : Array Oper} {Q : Exit → Act → World → Prop} {i : Nat} {o : Oper} {a : Act} {w w' : World} {f : FuncId} {args : Array Value} {u : Value} {S : World → Prop} (hi : ops[i]? = some o) (hw : Region.wanted o (yielded ops a.tmps) = true)
    (hr : (execOp a.eval o).run P w = .ok (.enter f args) w')
    (hc : Calls P f args w' fun e w'' => e = .returned u ∧ S w'') :
    wpOp P ops Q i (fun a' w' => ∃ v, a' = a.put o.dst v ∧ (o.dst.isSome = true → v = u) ∧ S w' ∧ True) a w := by
  unfold wpOp
  simp only [hi, hw, if_true]
  refine .inl ?_
  unfold Oper.wp
  rw [hr]
  refine Calls.mono hc ?_
  rintro e w'' ⟨rfl, hS⟩
  exact ⟨u, rfl, fun _ => rfl, hS, trivial⟩

end Go.Proofs.Ytnipikdlfmcheaa.Anylast

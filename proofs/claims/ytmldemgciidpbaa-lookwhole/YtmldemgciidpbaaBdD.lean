/-
  Texts laid together: Anyorder, AllocFree, AllocNew, AllocDo, AllocRef, LookHolds, LookRef, LookOwn, LookLaw, NodeLike, NodeIn, LookRightsOf, PageWant, LookLoad, LookOrder, LookFacts, LookSearch, LookWay, NodeFind.
-/
import Derived.Orders
import Derived.WalkKit
import Derived.Below
import Derived.Test.YtmldemgciidpbaaBdC
import Derived.Test.YtmldemgciidpbaaBdA
import Derived.Test.YtmldemgciidpbaaBdB
import Derived.Deep.RegionHeld3
namespace Go.Proofs.Ytmldemgciidpbaa.Anyorder
open Go

/-- Each operation waits for earlier ones alone, has a slot of its own, and that slot is there. -/
def fit (ops : Array Oper) (n : Nat) : Bool :=
  (List.range ops.size).all fun i => match ops[i]? with
    | none => true
    | some o => (o.after.toList.all fun e => decide (e.on < i)) &&
      match o.dst with
      | none => true
      | some d => decide (d < n) && (List.range ops.size).all fun j => match ops[j]? with
        | none => true
        | some oj => oj.dst != some d || j == i

theorem fit_spec {ops : Array Oper} {n : Nat} (h : fit ops n = true) {i : Nat} {o : Oper} (hi : ops[i]? = some o) :
    (∀ e ∈ o.after, e.on < i) ∧ ∀ d, o.dst = some d → d < n ∧ ∀ j oj, ops[j]? = some oj → oj.dst = some d → j = i := by
  have hlt : i < ops.size := (Array.getElem?_eq_some_iff.1 hi).1
  unfold fit at h
  rw [List.all_eq_true] at h
  have h1 := h i (List.mem_range.2 hlt)
  rw [hi] at h1
  simp only [Bool.and_eq_true, List.all_eq_true, decide_eq_true_eq] at h1
  obtain ⟨ha, hb⟩ := h1
  refine ⟨fun e he => ha e (Array.mem_toList_iff.2 he), fun d hd => ?_⟩
  rw [hd] at hb
  simp only [Bool.and_eq_true, List.all_eq_true, decide_eq_true_eq] at hb
  refine ⟨hb.1, fun j oj hj hdj => ?_⟩
  have hjlt : j < ops.size := (Array.getElem?_eq_some_iff.1 hj).1
  have h2 := hb.2 j (List.mem_range.2 hjlt)
  rw [hj] at h2
  simp only [hdj] at h2
  simpa using h2

/-- Operation o waits for number j. -/
def waits (o : Oper) (j : Nat) : Bool := o.after.toList.any fun e => Region.binds .any e && e.on == j

theorem waits_spec {o : Oper} {j : Nat} : waits o j = true ↔ ∃ e ∈ o.after, Region.binds .any e = true ∧ e.on = j := by
  unfold waits
  rw [List.any_eq_true]
  constructor
  · rintro ⟨e, he, h⟩
    rw [Bool.and_eq_true, beq_iff_eq] at h
    exact ⟨e, Array.mem_toList_iff.1 he, h.1, h.2⟩
  · rintro ⟨e, he, h1, h2⟩
    exact ⟨e, Array.mem_toList_iff.2 he, by rw [Bool.and_eq_true, beq_iff_eq]; exact ⟨h1, h2⟩⟩

/-- Nobody writes slot d ahead of number i. -/
def free (ops : Array Oper) (i d : Nat) : Bool :=
  (List.range ops.size).all fun j => match ops[j]? with
    | none => true
    | some oj => oj.dst != some d || j == i || waits oj i

theorem free_spec {ops : Array Oper} {i d : Nat} (h : free ops i d = true) {j : Nat} {oj : Oper} (hj : ops[j]? = some oj) (hd : oj.dst = some d) : j = i ∨ ∃ e ∈ oj.after, Region.binds .any e = true ∧ e.on = i := by
  unfold free at h
  rw [List.all_eq_true] at h
  have h1 := h j (List.mem_range.2 (Array.getElem?_eq_some_iff.1 hj).1)
  rw [hj] at h1
  simp only [hd] at h1
  rw [← waits_spec]
  simpa using h1

/-- What holds while they come up. -/
def Amid (ops : Array Oper) (a0 : Act) (V : Nat → Value → World → Prop) (S : World → Prop) (listed : Array Bool) (a : Act) (w : World) : Prop :=
  (S w) ∧
  (a.defers = a0.defers) ∧
  (a.tmps.size = a0.tmps.size) ∧
  (listed.size = ops.size) ∧
  (∀ (j : Nat) (oj : Oper), ops[j]? = some oj → listed.getD j false = true → ∀ e ∈ oj.after, Region.binds .any e = true → listed.getD e.on false = true) ∧
  (∀ d : Nat, (∀ (j : Nat) (oj : Oper), ops[j]? = some oj → oj.dst = some d → listed.getD j false = false) → a.tmps[d]? = a0.tmps[d]?) ∧
  (∀ (j : Nat) (oj : Oper) (d : Nat), ops[j]? = some oj → oj.dst = some d → listed.getD j false = true → ∃ v, a.tmps[d]? = some v ∧ V j v w)

theorem Amid.held {ops : Array Oper} {a0 : Act} {V : Nat → Value → World → Prop} {S : World → Prop} {listed : Array Bool} {a : Act} {w : World} (h : Amid ops a0 V S listed a w) : S w := h.1

theorem Amid.defers {ops : Array Oper} {a0 : Act} {V : Nat → Value → World → Prop} {S : World → Prop} {listed : Array Bool} {a : Act} {w : World} (h : Amid ops a0 V S listed a w) : a.defers = a0.defers := h.2.1

theorem Amid.size {ops : Array Oper} {a0 : Act} {V : Nat → Value → World → Prop} {S : World → Prop} {listed : Array Bool} {a : Act} {w : World} (h : Amid ops a0 V S listed a w) : a.tmps.size = a0.tmps.size := h.2.2.1

theorem Amid.lsize {ops : Array Oper} {a0 : Act} {V : Nat → Value → World → Prop} {S : World → Prop} {listed : Array Bool} {a : Act} {w : World} (h : Amid ops a0 V S listed a w) : listed.size = ops.size := h.2.2.2.1

theorem Amid.closed {ops : Array Oper} {a0 : Act} {V : Nat → Value → World → Prop} {S : World → Prop} {listed : Array Bool} {a : Act} {w : World} (h : Amid ops a0 V S listed a w) : ∀ (j : Nat) (oj : Oper), ops[j]? = some oj → listed.getD j false = true → ∀ e ∈ oj.after, Region.binds .any e = true → listed.getD e.on false = true := h.2.2.2.2.1

theorem Amid.same {ops : Array Oper} {a0 : Act} {V : Nat → Value → World → Prop} {S : World → Prop} {listed : Array Bool} {a : Act} {w : World} (h : Amid ops a0 V S listed a w) : ∀ d : Nat, (∀ (j : Nat) (oj : Oper), ops[j]? = some oj → oj.dst = some d → listed.getD j false = false) → a.tmps[d]? = a0.tmps[d]? := h.2.2.2.2.2.1

theorem Amid.val {ops : Array Oper} {a0 : Act} {V : Nat → Value → World → Prop} {S : World → Prop} {listed : Array Bool} {a : Act} {w : World} (h : Amid ops a0 V S listed a w) : ∀ (j : Nat) (oj : Oper) (d : Nat), ops[j]? = some oj → oj.dst = some d → listed.getD j false = true → ∃ v, a.tmps[d]? = some v ∧ V j v w := h.2.2.2.2.2.2

theorem getD_set (listed : Array Bool) (i j : Nat) (hi : i < listed.size) (b : Bool) : (listed.setIfInBounds i true).getD j b = if j = i then true else listed.getD j b := by
  simp only [Array.getD_eq_getD_getElem?, Array.getElem?_setIfInBounds]
  by_cases h : i = j
  · subst h; simp [hi]
  · rw [if_neg h, if_neg (fun e => h e.symm)]

/-- How many are still to come. -/
def left (listed : Array Bool) : Nat := listed.toList.countP (fun b => !b)

theorem left_set (listed : Array Bool) (i : Nat) (hi : i < listed.size) (h : listed.getD i true = false) : left (listed.setIfInBounds i true) + 1 = left listed := by
  unfold left
  rw [Array.toList_setIfInBounds]
  have hl : i < listed.toList.length := by simpa using hi
  have hv : listed.toList[i] = false := by
    simp only [Array.getD_eq_getD_getElem?, Array.getElem?_eq_getElem hi, Option.getD_some] at h
    simpa using h
  have hpos : 0 < listed.toList.countP (fun b => !b) := by
    rw [List.countP_pos_iff]
    exact ⟨false, by rw [← hv]; exact List.getElem_mem hl, rfl⟩
  rw [List.countP_set hl, hv]
  have e1 : (!false) = true := rfl
  have e2 : (!true) = false := rfl
  simp only [e1, e2, if_true, Bool.false_eq_true, if_false, Nat.add_zero]
  omega

theorem getD_both {listed : Array Bool} {i : Nat} (hi : i < listed.size) (b c : Bool) : listed.getD i b = listed.getD i c := by
  simp [Array.getD_eq_getD_getElem?, hi]

/-- THE RULE. -/
theorem any_inv {P : Program} {ops : Array Oper} {Q : Exit → Act → World → Prop} {a0 : Act} (V : Nat → Value → World → Prop) (S : World → Prop) (R : World → World → Prop)
    (hfit : fit ops a0.tmps.size = true)
    (hmono : ∀ i v w w', R w w' → V i v w → V i v w')
    (hstep : ∀ i o, ops[i]? = some o → ∀ a w, S w → a.defers = a0.defers → a.tmps.size = a0.tmps.size →
      (∀ j oj d, ops[j]? = some oj → oj.dst = some d → waits o j = true → ∃ v, a.tmps[d]? = some v ∧ V j v w) →
      (∀ d, free ops i d = true → a.tmps[d]? = a0.tmps[d]?) →
      wpOp P ops Q i (fun a' w' => ∃ v, a' = a.put o.dst v ∧ V i v w' ∧ S w' ∧ R w w') a w)
    (hdone : ∀ a w, S w → a.defers = a0.defers → a.tmps.size = a0.tmps.size →
      (∀ d, (∀ (j : Nat) (oj : Oper), ops[j]? = some oj → oj.dst ≠ some d) → a.tmps[d]? = a0.tmps[d]?) →
      (∀ j oj d, ops[j]? = some oj → oj.dst = some d → ∃ v, a.tmps[d]? = some v ∧ V j v w) → Q .normal a w) :
    ∀ (fuel : Nat) (listed : Array Bool) (a : Act) (w : World), left listed = fuel → Amid ops a0 V S listed a w → wpAny P .any ops Q fuel listed a w := by
  have hend : ∀ (listed : Array Bool) (a : Act) (w : World), Amid ops a0 V S listed a w → Region.ready .any ops listed = [] → Q .normal a w := by
    intro listed a w hI hr
    have hall : ∀ i, i < ops.size → listed.getD i false = true := by
      intro i
      induction i using Nat.strongRecOn with
      | _ i ih =>
        intro hi
        have hi' : i < listed.size := by rw [hI.lsize]; exact hi
        cases hc : listed.getD i false with
        | true => rfl
        | false =>
          exfalso
          have hm : i ∈ Region.ready .any ops listed := by
            rw [mem_ready]
            refine ⟨by rw [getD_both hi' true false]; exact hc, _, Array.getElem?_eq_getElem hi, fun e he _ => ?_⟩
            have hlt := (fit_spec hfit (Array.getElem?_eq_getElem hi)).1 e he
            exact ih e.on hlt (by omega)
          rw [hr] at hm
          cases hm
    refine hdone a w hI.held hI.defers hI.size (fun d hd => hI.same d fun j oj hj hdj => absurd hdj (hd j oj hj)) fun j oj d hj hd => hI.val j oj d hj hd (hall j (Array.getElem?_eq_some_iff.1 hj).1)
  have hone : ∀ (listed : Array Bool) (a : Act) (w : World) (i : Nat), Amid ops a0 V S listed a w → i ∈ Region.ready .any ops listed → wpOp P ops Q i (Amid ops a0 V S (listed.setIfInBounds i true)) a w := by
    intro listed a w i hI hi
    obtain ⟨h0, o, ho, hall⟩ := mem_ready.1 hi
    have hlt : i < ops.size := (Array.getElem?_eq_some_iff.1 ho).1
    have hlt' : i < listed.size := by rw [hI.lsize]; exact hlt
    have h0' : listed.getD i false = false := by rw [getD_both hlt' false true]; exact h0
    obtain ⟨hearly, hdst⟩ := fit_spec hfit ho
    refine wpOp_mono ?_ (hstep i o ho a w hI.held hI.defers hI.size ?_ ?_)
    · rintro a' w' ⟨v, rfl, hV, hS, hR⟩
      refine ⟨hS, ?_, ?_, by rw [Array.size_setIfInBounds]; exact hI.lsize, ?_, ?_, ?_⟩
      · cases hd : o.dst <;> exact hI.defers
      · cases hd : o.dst with
        | none => exact hI.size
        | some d => simpa [Act.put] using hI.size
      · intro j oj hj hl e he hb
        rw [getD_set _ _ _ hlt']
        by_cases hji : j = i
        · subst hji
          rw [ho] at hj
          cases hj
          have := hall e he hb
          split
          · rfl
          · exact this
        · rw [getD_set _ _ _ hlt', if_neg hji] at hl
          split
          · rfl
          · exact hI.closed j oj hj hl e he hb
      · intro d hd
        have hne : o.dst ≠ some d := by
          intro e
          have := hd i o ho e
          rw [getD_set _ _ _ hlt', if_pos rfl] at this
          cases this
        have hs := hI.same d fun j oj hj hdj => by
          have h := hd j oj hj hdj
          rw [getD_set _ _ _ hlt'] at h
          split at h
          · cases h
          · exact h
        cases hdd : o.dst with
        | none => exact hs
        | some d' =>
          have : d' ≠ d := fun e => hne (by rw [hdd, e])
          simp only [Act.put]
          rw [Array.getElem?_setIfInBounds_ne this]
          exact hs
      · intro j oj d hj hd hl
        by_cases hji : j = i
        · subst hji
          rw [ho] at hj
          cases hj
          refine ⟨v, ?_, hV⟩
          rw [hd]
          have := (hdst d hd).1
          simp only [Act.put]
          rw [Array.getElem?_setIfInBounds_self_of_lt (by rw [hI.size]; exact this)]
        · rw [getD_set _ _ _ hlt', if_neg hji] at hl
          obtain ⟨u, hu, hVu⟩ := hI.val j oj d hj hd hl
          refine ⟨u, ?_, hmono j u _ _ hR hVu⟩
          cases hdd : o.dst with
          | none => exact hu
          | some d' =>
            have : d' ≠ d := fun e => hji ((hdst d' hdd).2 j oj hj (by rw [hd, e]))
            simp only [Act.put]
            rw [Array.getElem?_setIfInBounds_ne this]
            exact hu
    · intro j oj d hj hd hwt
      obtain ⟨e, he, hb, rfl⟩ := waits_spec.1 hwt
      exact hI.val _ oj d hj hd (hall e he hb)
    · intro d hd
      refine hI.same d fun j oj hj hdj => ?_
      cases hc : listed.getD j false with
      | false => rfl
      | true =>
        exfalso
        rcases free_spec hd hj hdj with hji | ⟨e, he, hb, hei⟩
        · subst hji
          rw [h0'] at hc
          cases hc
        · have := hI.closed j oj hj hc e he hb
          rw [hei, h0'] at this
          cases this
  intro fuel
  induction fuel with
  | zero =>
    intro listed a w hl hI
    have hr : Region.ready .any ops listed = [] := by
      cases hr : Region.ready .any ops listed with
      | nil => rfl
      | cons i r =>
        exfalso
        have hi : i ∈ Region.ready .any ops listed := by rw [hr]; exact List.mem_cons_self
        obtain ⟨h0, o, ho, _⟩ := mem_ready.1 hi
        have hlt : i < listed.size := by rw [hI.lsize]; exact (Array.getElem?_eq_some_iff.1 ho).1
        have := left_set listed i hlt h0
        omega
    exact ⟨hr, hend listed a w hI hr⟩
  | succ fuel ih =>
    intro listed a w hl hI
    refine ⟨hend listed a w hI, fun i hi => ?_⟩
    obtain ⟨h0, o, ho, _⟩ := mem_ready.1 hi
    have hlt : i < listed.size := by rw [hI.lsize]; exact (Array.getElem?_eq_some_iff.1 ho).1
    have hls := left_set listed i hlt h0
    exact wpOp_mono (fun a' w' h' => ih _ a' w' (by omega) h') (hone listed a w i hI hi)

/-- THE RULE, of a region. -/
theorem region_inv {P : Program} {ops : Array Oper} {Q : Exit → Act → World → Prop} {id : Nat} {a0 : Act} {w0 : World} (hm : P.follows .mixedOrders = true) (V : Nat → Value → World → Prop) (S : World → Prop) (R : World → World → Prop)
    (hfit : fit ops a0.tmps.size = true)
    (hmono : ∀ i v w w', R w w' → V i v w → V i v w')
    (hS : S w0.drew)
    (hstep : ∀ i o, ops[i]? = some o → ∀ a w, S w → a.defers = a0.defers → a.tmps.size = a0.tmps.size →
      (∀ j oj d, ops[j]? = some oj → oj.dst = some d → waits o j = true → ∃ v, a.tmps[d]? = some v ∧ V j v w) →
      (∀ d, free ops i d = true → a.tmps[d]? = a0.tmps[d]?) →
      wpOp P ops Q i (fun a' w' => ∃ v, a' = a.put o.dst v ∧ V i v w' ∧ S w' ∧ R w w') a w)
    (hdone : ∀ a w, S w → a.defers = a0.defers → a.tmps.size = a0.tmps.size →
      (∀ d, (∀ (j : Nat) (oj : Oper), ops[j]? = some oj → oj.dst ≠ some d) → a.tmps[d]? = a0.tmps[d]?) →
      (∀ j oj d, ops[j]? = some oj → oj.dst = some d → ∃ v, a.tmps[d]? = some v ∧ V j v w) → Q .normal a w) :
    (Code.region id ops true).wp P Q a0 w0 := by
  refine wp_region_any hm (any_inv V S R hfit hmono hstep hdone ops.size (Array.replicate ops.size false) a0 _ ?_ ?_)
  · unfold left
    rw [Array.toList_replicate, List.countP_replicate]
    simp
  · have hf : ∀ j, (Array.replicate ops.size false).getD j false = false := by
      intro j
      simp only [Array.getD_eq_getD_getElem?, Array.getElem?_replicate]
      split <;> rfl
    refine ⟨hS, rfl, rfl, by simp, ?_, fun d _ => rfl, ?_⟩
    · intro j oj _ hl
      rw [hf] at hl
      cases hl
    · intro j oj d _ _ hl
      rw [hf] at hl
      cases hl

/-- An operation behind '&&' whose guard is true. -/
theorem wanted_by {ops : Array Oper} {o : Oper} {tmps : Array Value} (g : Nat) (b : Bool) (d : Nat) (h : o.guard = some (g, b)) (hd : (ops[g]?).bind (·.dst) = some d) (hv : tmps[d]? = some (.bool b)) :
    Region.wanted o (yielded ops tmps) = true := by
  unfold Region.wanted yielded
  rw [h]
  simp [hd, hv]

theorem wanted_free {ops : Array Oper} {o : Oper} {tmps : Array Value} (h : o.guard = none) : Region.wanted o (yielded ops tmps) = true := by
  unfold Region.wanted
  rw [h]

theorem eval_tmp {a : Act} {d : Nat} {v : Value} (h : a.tmps[d]? = some v) : a.eval (.tmp d) = v := by
  simp [Act.eval, h]

/-- One operation that runs to its end. -/
theorem op_value {P : Program} {ops : Array Oper} {Q : Exit → Act → World → Prop} {i : Nat} {o : Oper} {a : Act} {w w' : World} {v : Value} {V : Nat → Value → World → Prop} {S : World → Prop} {R : World → World → Prop} (hi : ops[i]? = some o) (hw : Region.wanted o (yielded ops a.tmps) = true)
    (hr : (execOp a.eval o).run P w = .ok (.value v) w') (hV : V i v w') (hS : S w') (hR : R w w') :
    wpOp P ops Q i (fun a' w' => ∃ v, a' = a.put o.dst v ∧ V i v w' ∧ S w' ∧ R w w') a w := by
  unfold wpOp
  simp only [hi, hw, if_true]
  refine .inl ?_
  unfold Oper.wp
  rw [hr]
  exact ⟨v, rfl, hV, hS, hR⟩

/-- One call, by its contract. -/
theorem op_call {P : Program} {ops : Array Oper} {Q : Exit → Act → World → Prop} {i : Nat} {o : Oper} {a : Act} {w w' : World} {f : FuncId} {args : Array Value} {V : Nat → Value → World → Prop} {S : World → Prop} {R : World → World → Prop} (hi : ops[i]? = some o) (hw : Region.wanted o (yielded ops a.tmps) = true)
    (hr : (execOp a.eval o).run P w = .ok (.enter f args) w')
    (hc : Calls P f args w' fun e w'' => ∃ v, e = .returned v ∧ V i v w'' ∧ S w'' ∧ R w w'') :
    wpOp P ops Q i (fun a' w' => ∃ v, a' = a.put o.dst v ∧ V i v w' ∧ S w' ∧ R w w') a w := by
  unfold wpOp
  simp only [hi, hw, if_true]
  refine .inl ?_
  unfold Oper.wp
  rw [hr]
  refine Calls.mono hc ?_
  rintro e w'' ⟨v, rfl, hV, hS, hR⟩
  exact ⟨v, rfl, hV, hS, hR⟩

/-! The frame behind the region, written out -/

theorem unwritten {ops : Array Oper} {d : Nat} (h : (ops.toList.all fun o => o.dst != some d) = true) : ∀ (j : Nat) (oj : Oper), ops[j]? = some oj → oj.dst ≠ some d := by
  intro j oj hj
  rw [List.all_eq_true] at h
  have := h oj (Array.mem_toList_iff.2 (Array.mem_of_getElem? hj))
  simpa using this

def Fits (t : Array Value) : Nat → List Value → Prop
  | _, [] => True
  | i, v :: vs => t[i]? = some v ∧ Fits t (i + 1) vs

theorem Fits.get {t : Array Value} {l : List Value} {k : Nat} (h : Fits t k l) (i : Nat) (v : Value) (hi : l[i]? = some v) : t[k + i]? = some v := by
  induction l generalizing k i with
  | nil => simp at hi
  | cons x xs ih =>
    cases i with
    | zero => simp at hi; subst hi; exact h.1
    | succ i =>
      have := ih h.2 i (by simpa using hi)
      rw [show k + (i + 1) = k + 1 + i by omega]
      exact this

theorem frame_is {a : Act} {l : List Value} {ds : List Deferred} (h : Fits a.tmps 0 l) (hd : a.defers = ds) (hs : a.tmps.size = l.length) : a = ⟨l.toArray, ds⟩ := by
  obtain ⟨t, d⟩ := a
  subst hd
  congr 1
  apply Array.ext_getElem?
  intro i
  by_cases hi : i < l.length
  · have := h.get i l[i] (List.getElem?_eq_getElem hi)
    rw [Nat.zero_add] at this
    rw [this, List.getElem?_toArray, List.getElem?_eq_getElem hi]
  · rw [Array.getElem?_eq_none (by simp only at hs; omega), List.getElem?_toArray, List.getElem?_eq_none (by omega)]

end Go.Proofs.Ytmldemgciidpbaa.Anyorder

namespace Go.Proofs.Ytmldemgciidpbaa
open Go.RowKit Plain Anyorder
set_option linter.unusedVariables false

theorem countN_how (ls : List (List Bool)) (k : Nat) : countN ls k = howN (allB ls) k := by
  induction k with
  | zero => rfl
  | succ k ih => rw [countN_succ, howN, ih]

theorem count_incl (f g h u : Nat → Bool) (k : Nat) (hh : ∀ i, h i = (f i && g i)) (hu : ∀ i, i < k → u i = (!f i && !g i)) : howN f k + howN g k + howN u k = howN h k + k := by
  induction k with
  | zero => rfl
  | succ k ih =>
    have := ih fun i hi => hu i (by omega)
    rw [howN, howN, howN, howN, hh k, hu k (by omega)]
    cases f k <;> cases g k <;> simp [bn] <;> omega

/-- How many are free, by how many are used. -/
theorem free_used {b m : List Bool} (h : b.length = m.length) : countB [b] + countB [m] + howN (freeB b m) m.length = countB [b, m] + m.length := by
  have e1 : countB [b] = howN (atB b) m.length := by
    unfold countB
    rw [countN_how, show longest [b] = m.length by simp [longest]; omega]
    apply howN_congr
    intro i _
    rw [Bool.eq_iff_iff]
    unfold allB
    rw [decide_eq_true_eq, howB_all]; simp
  have e2 : countB [m] = howN (atB m) m.length := by
    unfold countB
    rw [countN_how, show longest [m] = m.length by simp [longest]]
    apply howN_congr
    intro i _
    rw [Bool.eq_iff_iff]
    unfold allB
    rw [decide_eq_true_eq, howB_all]; simp
  have e3 : countB [b, m] = howN (fun i => atB b i && atB m i) m.length := by
    unfold countB
    rw [countN_how, show longest [b, m] = m.length by simp [longest]; omega]
    apply howN_congr
    intro i _
    rw [Bool.eq_iff_iff]
    unfold allB
    rw [decide_eq_true_eq, howB_all]; simp
  rw [e1, e2, e3]
  refine count_incl _ _ _ _ _ (fun _ => rfl) fun i hi => ?_
  unfold freeB
  rw [decide_eq_true hi, Bool.true_and, Bool.and_comm]

theorem first_ten {b m : List Bool} (h : rightA b m = true) : firstB 10 [b, m] = takeP b m := by
  obtain ⟨hl, _⟩ := (rightA_iff b m).1 h
  have hL : longest [b, m] = m.length := by simp [longest]; omega
  rcases takeP_spec hl with ⟨e, hn⟩ | ⟨p, e, hp, hf, hlo⟩
  · rw [e]
    refine firstB_none fun j _ hj hh => ?_
    rw [hL] at hj
    have := hn j hj
    rw [(freeB_how hj).2 hh] at this
    cases this
  · rw [e]
    refine firstB_is (by have := free_ten h hf; omega) (by omega) ((freeB_how hp).1 hf) fun j _ hj hh => ?_
    have := hlo j hj
    rw [(freeB_how (by omega)).2 hh] at this
    cases this

theorem freeC_le (b m : List Bool) : freeC b m ≤ 2048 := by
  unfold freeC
  split
  · rename_i h
    have := howN_le (freeB b m) m.length
    have := ((rightA_iff b m).1 h).2.2.1
    omega
  · omega

/-- What the slots of Free's drawn region hold. -/
def freeV (a a' : Option Addr) (c c' n n' h : Nat) (b m : List Bool) (X Y Z : Nat) (i : Nat) (v : Value) (w : World) : Prop :=
  match i with
  | 0 => v = .pointer (some ⟨h, 0, none⟩)
  | 1 => v = .slice a n c
  | 2 => ∃ k, v = .slice (some ⟨k, 0, none⟩) 1 1 ∧ IsL w (some ⟨k, 0, none⟩) 1 [(a, c, b)]
  | 3 => v = .int .i64 X
  | 4 => v = .pointer (some ⟨h, 1, none⟩)
  | 5 => v = .slice a' n' c'
  | 6 => ∃ k, v = .slice (some ⟨k, 0, none⟩) 1 1 ∧ IsL w (some ⟨k, 0, none⟩) 1 [(a', c', m)]
  | 7 => v = .int .i64 Y
  | 8 => v = .int .i64 ((X : Int) + Y)
  | 9 => v = .pointer (some ⟨h, 0, none⟩)
  | 10 => v = .slice a n c
  | 11 => v = .pointer (some ⟨h, 1, none⟩)
  | 12 => v = .slice a' n' c'
  | 13 => ∃ k, v = .slice (some ⟨k, 0, none⟩) 2 2 ∧ IsL w (some ⟨k, 0, none⟩) 2 [(a, c, b), (a', c', m)]
  | 14 => v = .int .i64 Z
  | 15 => v = .int .i64 ((X : Int) + Y - Z)
  | 16 => v = .int .i64 ((X : Int) + Y - Z)
  | _ => True

end Go.Proofs.Ytmldemgciidpbaa

namespace Go.Proofs.Ytmldemgciidpbaa
open Go.RowKit Plain
set_option linter.unusedVariables false

/-- The rows of a new one, of a number that may not be, too; the error. -/
def freshA (k : Int) : List Bool := if mayB k = true then freshL k.toNat else []
def freshE (k : Int) : Int := if mayB k = true then 0 else 1

/-- The first so many of the reserved ones used. -/
def usedL (k j : Nat) : List Bool := (List.range k).map fun i => decide (i < j)

theorem usedL_length (k j : Nat) : (usedL k j).length = k := by simp [usedL]
theorem usedL_get {k i : Nat} (j : Nat) (h : i < k) : (usedL k j)[i]? = some (decide (i < j)) := by
  unfold usedL; rw [List.getElem?_map, List.getElem?_range h]; rfl
theorem usedL_zero (k : Nat) : usedL k 0 = List.replicate k false := by
  apply List.ext_getElem?
  intro i
  by_cases h : i < k
  · rw [usedL_get 0 h, List.getElem?_replicate, if_pos h]; simp
  · rw [List.getElem?_eq_none (by rw [usedL_length]; omega), List.getElem?_eq_none (by simp; omega)]
theorem usedL_set {k j : Nat} (h : j < k) : (usedL k j).set j true = usedL k (j + 1) := by
  apply List.ext_getElem?
  intro i
  by_cases hi : i < k
  · rw [usedL_get _ hi]
    by_cases e : j = i
    · subst e
      rw [List.getElem?_set_self (by rw [usedL_length]; exact h)]
      simp
    · rw [List.getElem?_set_ne e, usedL_get _ hi, show decide (i < j + 1) = decide (i < j) from by rw [decide_eq_decide]; omega]
  · rw [List.getElem?_eq_none (by rw [List.length_set, usedL_length]; omega), List.getElem?_eq_none (by rw [usedL_length]; omega)]
theorem usedL_ten (k : Nat) : usedL k 10 = freshL k := rfl

theorem mayB_no {k : Int} (h : mayB k = false) : freshA k = [] ∧ freshE k = 1 := by unfold freshA freshE; rw [h]; exact ⟨rfl, rfl⟩
theorem mayB_yes {k : Nat} (h : mayB k = true) : freshA k = freshL k ∧ freshE k = 0 := by unfold freshA freshE; rw [h]; exact ⟨rfl, rfl⟩
theorem mayB_iff {k : Int} : mayB k = true ↔ 24 ≤ k ∧ k ≤ 2048 := by unfold mayB; simp

theorem free_new24 : freeC (freshL 24) (freshL 24) = 14 := by decide +kernel
theorem right_new24 : rightA (freshL 24) (freshL 24) = true := freshL_right (by omega) (by omega)

end Go.Proofs.Ytmldemgciidpbaa

namespace Go.Proofs.Ytmldemgciidpbaa
open Go.RowKit Plain
set_option linter.unusedVariables false

/-- A box of an alloc that came in and one of what goes out. -/
theorem two_box2 {w W : World} {v0 v1 u0 u1 : Value} {t : TypeId} (hW : W = (w.alloc (.cells #[v0, v1] t)).alloc (.cells #[u0, u1] t)) :
    Below w.heap.size w W ∧ W.heap.size = w.heap.size + 2 ∧ Box2 W w.heap.size v0 v1 ∧ Box2 W (w.heap.size + 1) u0 u1 := by
  subst hW
  refine ⟨((Below.refl _ _).alloc (Nat.le_refl _) _).alloc (by simp) _, by simp, (box2_new _ _ _ _ rfl).alloc _, box2_new _ _ _ _ (by simp)⟩

theorem take_wrong {b m : List Bool} (h : rightA b m = false) : takeE b m = 1 := by unfold takeE; rw [h]; rfl
theorem take_none {b m : List Bool} (h : rightA b m = true) (hp : takeP b m = -1) : takeE b m = 60 := by unfold takeE; rw [if_pos h, if_pos hp]
theorem take_some {b m : List Bool} (h : rightA b m = true) {p : Nat} (hp : takeP b m = p) : takeE b m = 0 := by unfold takeE; rw [if_pos h, if_neg (by omega)]
theorem take_err {b m : List Bool} (h : takeE b m ≠ 0) : takeK b m = 0 ∧ takeB b m = [] ∧ takeNow b m = [] := by unfold takeK takeB takeNow; rw [if_neg h, if_neg h, if_neg h]; exact ⟨rfl, rfl, rfl⟩
theorem took_ok {b m : List Bool} (h : takeE b m = 0) {p : Nat} (hp : takeP b m = p) : takeK b m = p ∧ takeB b m = b ∧ takeNow b m = m.set p true := by unfold takeK takeB takeNow; rw [if_pos h, if_pos h, if_pos h, hp]; exact ⟨rfl, rfl, rfl⟩

theorem give_err {b m : List Bool} {xs : List Int} (h : giveE b m xs ≠ 0) : giveB b m xs = [] ∧ giveN b m xs = [] := by unfold giveB giveN; rw [if_neg h, if_neg h]; exact ⟨rfl, rfl⟩
theorem give_wrong {b m : List Bool} {xs : List Int} (h : rightA b m = false) : giveE b m xs = 1 := by unfold giveE; rw [h]; rfl
theorem give_none {b m : List Bool} {xs : List Int} (h : rightA b m = true) (hg : giveR m xs = none) : giveE b m xs = 30 := by unfold giveE; rw [if_pos h, hg]; rfl
theorem give_some {b m l : List Bool} {xs : List Int} (h : rightA b m = true) (hg : giveR m xs = some l) : giveE b m xs = 0 ∧ giveB b m xs = b ∧ giveN b m xs = l := by
  have hE : giveE b m xs = 0 := by unfold giveE; rw [if_pos h, hg]; rfl
  unfold giveB giveN
  rw [if_pos hE, if_pos hE, hg]
  exact ⟨hE, rfl, rfl⟩

theorem giveR_bad {m l : List Bool} {xs : List Int} {j : Nat} {x : Int} (h : giveR m (xs.take j) = some l) (hx : xs[j]? = some x) (hb : ¬ (10 ≤ x ∧ x < l.length ∧ atB l x.toNat = true)) : giveR m xs = none := by
  apply giveR_stop (j := j + 1)
  rw [giveR_take h hx, if_neg hb]

end Go.Proofs.Ytmldemgciidpbaa

namespace Go.Proofs.Ytmldemgciidpbaa
open Go.RowKit Plain
set_option linter.unusedVariables false

theorem right_size {b m : List Bool} (h : ¬ (24 ≤ m.length ∧ m.length ≤ 2048)) : rightA b m = false := by
  rw [Bool.eq_false_iff]
  intro hr
  obtain ⟨_, h1, h2, _⟩ := (rightA_iff b m).1 hr
  exact h ⟨h1, h2⟩

theorem right_place {b m : List Bool} {i : Nat} (hi : i < 10) (h : atB b i = false ∨ atB m i = false) : rightA b m = false := by
  rw [Bool.eq_false_iff]
  intro hr
  obtain ⟨_, _, _, h4⟩ := (rightA_iff b m).1 hr
  obtain ⟨h5, h6⟩ := h4 i hi
  rcases h with h | h
  · rw [h] at h5; cases h5
  · rw [h] at h6; cases h6

set_option maxHeartbeats 1000000 in
/-- The document's own RIGHT, of all allocs. -/
theorem allocRefRight_any (a a' : Option Addr) (c c' n n' : Nat) (b m : List Bool) (w : World) (hn : n = b.length) (hn' : n' = m.length) (hB : IsB w a c b) (hB' : IsB w a' c' m) :
    Calls Try.prog 23 #[.agg #[.slice a n c, .slice a' n' c']] w fun e w' => e = .returned (.bool (rightA b m)) ∧ Below w.heap.size w w' := by
  have hnb : n ≤ 9223372036854775807 := by rw [hn]; exact Nat.le_trans hB.1 hB.2.1
  have hnb' : n' ≤ 9223372036854775807 := by rw [hn']; exact Nat.le_trans hB'.1 hB'.2.1
  have hB0 : Below w.heap.size w (w.alloc (.cells #[.slice a n c, .slice a' n' c'] 24)) := (Below.refl _ _).alloc (Nat.le_refl _) _
  obtain ⟨⟨q0, q1⟩, -⟩ := box2_new w (.slice a n c) (.slice a' n' c') 24 rfl
  by_cases hl : n = n'
  · subst hl
    by_cases h24 : 24 ≤ n
    · by_cases h48 : n ≤ 2048
      · have h1 : ¬ (n : Int) < 24 := by omega
        have h2 : ¬ (2048 : Int) < n := by omega
        have HB : Hid (IsB _ a c b) := hB.below hB0
        have HB' : Hid (IsB _ a' c' m) := hB'.below hB0
        have HN : Hid (n = b.length ∧ n = m.length) := ⟨hn, hn'⟩
        obtain ⟨b1, o1, rfl, -⟩ := hB.some (by omega)
        obtain ⟨b2, o2, rfl, -⟩ := hB'.some (by omega)
        clear hn hn' hB hB'
        go_enter Try.func23, Try.ntmps23
        go_wp2
        generalize w.alloc (.cells #[.slice (some ⟨b1, o1, none⟩) n c, .slice (some ⟨b2, o2, none⟩) n c'] 24) = W at q0 q1 hB0 HB HB' ⊢
        go_loopw [3] (fun v wr => ∃ j : Nat, j ≤ 10 ∧ v = .int .i64 j ∧ (∀ i, i < j → atB b i = true ∧ atB m i = true) ∧ W = wr) (fun v _ => 10 - (intOf v).toNat)
        case atStart => exact ⟨0, by omega, rfl, fun i hi => by omega, by trivial⟩
        case round =>
          obtain ⟨j, hj, rfl, hall, rfl⟩ := hrel
          have HA : Hid (∀ i, i < j → atB b i = true ∧ atB m i = true) := hall
          clear hall
          by_cases hlt : j < 10
          · have hlt' : (j : Int) < 10 := by omega
            have hjn : (j : Int) < n := by omega
            obtain ⟨x, hx⟩ : ∃ q, Hid (b[j]? = some q) := ⟨_, List.getElem?_eq_getElem (by rw [← HN.out.1]; omega)⟩
            obtain ⟨y, hy⟩ : ∃ q, Hid (m[j]? = some q) := ⟨_, List.getElem?_eq_getElem (by rw [← HN.out.2]; omega)⟩
            have hc1 := HB.out.at hx.out
            have hc2 := HB'.out.at hy.out
            cases x with
            | false =>
              have hE : Hid (rightA b m = false) := right_place hlt (.inl (atB_some hx.out))
              go_wp2
              go_ret
              exact ⟨ret_bool hE.out.symm, hB0⟩
            | true =>
              cases y with
              | false =>
                have hE : Hid (rightA b m = false) := right_place hlt (.inr (atB_some hy.out))
                go_wp2
                go_ret
                exact ⟨ret_bool hE.out.symm, hB0⟩
              | true =>
                have hnx : Hid (∀ i, i < j + 1 → atB b i = true ∧ atB m i = true) := by
                  intro i hi
                  by_cases e : i = j
                  · rw [e]; exact ⟨atB_some hx.out, atB_some hy.out⟩
                  · exact HA.out i (by omega)
                go_wp2
                go_roundw
                case rel => exact ⟨j + 1, by omega, by go_num, hnx.out, by trivial⟩
                case measure => simp [intOf]; omega
          · obtain rfl : j = 10 := by omega
            have hE : Hid (rightA b m = true) := (rightA_iff b m).2 ⟨HN.out.1.symm.trans HN.out.2, by have := HN.out.2; omega, by have := HN.out.2; omega, HA.out⟩
            go_wp2
            go_ret
            exact ⟨ret_bool hE.out.symm, hB0⟩
      · have hE : Hid (rightA b m = false) := right_size (by omega)
        have h1 : ¬ (n : Int) < 24 := by omega
        have h2 : (2048 : Int) < n := by omega
        clear hn hn' hB hB'
        go_enter Try.func23, Try.ntmps23
        go_wp2
        go_ret
        exact ⟨ret_bool hE.out.symm, hB0⟩
    · have hE : Hid (rightA b m = false) := right_size (by omega)
      have h1 : (n : Int) < 24 := by omega
      clear hn hn' hB hB'
      go_enter Try.func23, Try.ntmps23
      go_wp2
      go_ret
      exact ⟨ret_bool hE.out.symm, hB0⟩
  · have hE : Hid (rightA b m = false) := right_lens (by omega)
    have hl' : ((n : Int) == n') = false := by rw [beq_eq_false_iff_ne]; omega
    clear hn hn' hB hB'
    go_enter Try.func23, Try.ntmps23
    go_wp2
    go_ret
    exact ⟨ret_bool hE.out.symm, hB0⟩

def likeA (b m b' m' : List Bool) : Bool := decide (b = b') && decide (m = m')

theorem likeA_same (b m : List Bool) : likeA b m b m = true := by unfold likeA; simp

end Go.Proofs.Ytmldemgciidpbaa

namespace Go.Proofs.Ytmldemgciidpbaa
namespace Plain
/-- Which woods may be. -/
def rightW (bs ns : List Bool) (ps : List ByteArray) (root gen : Int) : Bool :=
  rightA bs ns && decide (ps.length = ns.length) && decide (1 ≤ gen) && decide (gen ≤ 1099511627776) && ps.all (fun s => decide (s.size ≤ 4096)) && (decide (root = 0) || (decide (10 ≤ root) && decide (root < ns.length)))
end Plain
open Go.RowKit Plain
set_option linter.unusedVariables false

theorem readB_few (s : ByteArray) : (readB s).size ≤ 4096 := by
  unfold readB
  by_cases h : readE s = 0
  · rw [if_pos h]
    have hs : s.size ≤ 4096 := by
      by_cases hs : s.size ≤ 4096
      · exact hs
      · rw [readE, if_neg hs] at h; omega
    unfold fB
    rw [ByteArray.size_extract, fullS_size hs]
    omega
  · rw [if_neg h]
    exact Nat.zero_le _

/-- The node that a page holds, of a generation of at most gen. -/
def pageN (s : ByteArray) (gen : Int) (root : Bool) : Option NodeS :=
  if readE s = 0 ∧ readG s ≤ gen ∧ gE (readK s) (readB s) = 0 ∧ rightN (gN (readK s) (readB s)).1 (gN (readK s) (readB s)).2.1 (gN (readK s) (readB s)).2.2.1 (gN (readK s) (readB s)).2.2.2 root = true then some (gN (readK s) (readB s)) else none

/-- The node that a block holds. -/
def holdsS (ns : List Bool) (ps : List ByteArray) (gen : Int) (block : Int) (root : Bool) : Option NodeS :=
  if 10 ≤ block ∧ block < ns.length ∧ block < ps.length ∧ ns.getD block.toNat false = true then pageN (ps.getD block.toNat ⟨#[]⟩) gen root else none

/-- How it is answered. -/
def HoldsC (w : World) (x : Ending) (w' : World) : Option NodeS → Prop
  | none => x = .returned (.tuple #[.agg #[.bool false, .slice none 0 0, .slice none 0 0, .slice none 0 0], .bool false]) ∧ Below w.heap.size w w'
  | some nd => ∃ k1 a1 d1 k2 a2 d2 k3 a3 d3, x = .returned (.tuple #[.agg #[.bool nd.1, .slice a1 k1 d1, .slice a2 k2 d2, .slice a3 k3 d3], .bool true]) ∧ k1 = nd.2.1.length ∧ k2 = nd.2.2.1.length ∧ k3 = nd.2.2.2.length ∧ IsS w' a1 d1 nd.2.1 ∧ IsS w' a2 d2 nd.2.2.1 ∧ IsI w' a3 d3 nd.2.2.2 ∧ From w.heap.size a1 ∧ From w.heap.size a2 ∧ From w.heap.size a3 ∧ Below w.heap.size w w'

set_option maxRecDepth 20000 in
set_option maxHeartbeats 4000000 in
/-- penelope/peneloperef08.HoldsDS. -/
theorem holds_any (a a' b : Option Addr) (n c n' c' p f : Nat) (ns : List Bool) (ps : List ByteArray) (root gen block : Int) (rt : Bool) (w : World) (hn' : n' = ns.length) (hp : p = ps.length) (hB' : IsB w a' c' ns) (hP : IsS w b f ps) :
    Calls Try.prog 14 #[.agg #[.slice a n c, .slice a' n' c', .slice b p f, .int .i64 root, .int .i64 gen], .int .i64 block, .bool rt] w fun x w' => HoldsC w x w' (holdsS ns ps gen block rt) := by
  obtain ⟨W, hW⟩ : ∃ W, W = (w.alloc (.cells #[.slice a n c, .slice a' n' c', .slice b p f, .int .i64 root, .int .i64 gen] 27)).alloc (.cells #[.bool false, .slice none 0 0, .slice none 0 0, .slice none 0 0] 32) := ⟨_, rfl⟩
  have BW : WoodBox W w.heap.size (.slice a n c) (.slice a' n' c') (.slice b p f) (.int .i64 root) (.int .i64 gen) := by rw [hW]; exact (woodBox_new _ _ _ _ _ _ _ rfl).below ((Below.refl _ _).alloc (Nat.le_refl _) _)
  have BR : Box4 W (w.heap.size + 1) (.bool false) (.slice none 0 0) (.slice none 0 0) (.slice none 0 0) := by rw [hW]; exact box4_new _ _ _ _ _ _ (by simp)
  have HB : Below w.heap.size w W := by rw [hW]; exact ((Below.refl _ _).alloc (Nat.le_refl _) _).alloc (by simp) _
  have hle : w.heap.size ≤ w.heap.size + 1 := by omega
  have mn : n' ≤ 9223372036854775807 := by rw [hn']; exact Nat.le_trans hB'.1 hB'.2.1
  have mp : p ≤ 9223372036854775807 := by rw [hp]; exact Nat.le_trans hP.1 hP.2.1
  obtain ⟨O, hO'⟩ : ∃ O, O = holdsS ns ps gen block rt := ⟨_, rfl⟩
  rw [← hO']
  obtain ⟨⟨r0, r1, r2, r3⟩, f0, f1, f2, f3⟩ := id (hW ▸ BR)
  obtain ⟨x0, x1, x2, x3, x4⟩ := id (hW ▸ BW)
  by_cases hin : 10 ≤ block ∧ block < ns.length ∧ block < ps.length ∧ ns.getD block.toNat false = true
  · have hO1 : O = pageN (ps.getD block.toNat ⟨#[]⟩) gen rt := by rw [hO']; unfold holdsS; rw [if_pos hin]
    obtain ⟨h10, hl1, hl2, hnow⟩ := hin
    obtain ⟨i, rfl⟩ : ∃ i : Nat, block = i := ⟨block.toNat, by omega⟩
    simp only [Int.toNat_natCast] at hnow hO1
    have hi1 : i < ns.length := by omega
    have hi2 : i < ps.length := by omega
    have hgn : ns[i]? = some true := by rw [List.getD_eq_getElem?_getD, List.getElem?_eq_getElem hi1] at hnow; rw [List.getElem?_eq_getElem hi1]; exact congrArg some hnow
    obtain ⟨s, hs⟩ : ∃ s, ps[i]? = some s := ⟨_, List.getElem?_eq_getElem hi2⟩
    rw [List.getD_eq_getElem?_getD, hs] at hO1
    obtain ⟨b1, o1, rfl, hlb1, hc1⟩ := hB'.2.2 i true hgn
    obtain ⟨b2, o2, rfl, hlb2, hc2, hss⟩ := hP.2.2 i s hs
    have z1 := cell_below HB hc1
    have z2 := cell_below HB hc2
    rw [hW] at z1 z2
    have k1 : ¬ (i : Int) < 10 := by omega
    have k2 : ¬ (n' : Int) ≤ i := by omega
    have k3 : ¬ (p : Int) ≤ i := by omega
    have k4 : (i : Int) < n' := by omega
    have k5 : (i : Int) < p := by omega
    have cP := fun V => refPageGet_any s V hss
    have hrBs : (readB s).size ≤ maxLen := Nat.le_trans (readB_few s) (by unfold maxLen; omega)
    have cG := fun V => refNodeGet_any (readK s) (readB s) V hrBs
    have hO : O = pageN s gen rt := hO1
    unfold pageN at hO
    clear hO1 hO' hn' hp hB' hP h10 hl1 hl2 hnow hi1 hi2 hgn hs hlb1 hlb2 hc1 hc2 hss hrBs
    obtain ⟨rE, hrE⟩ : ∃ x, x = readE s := ⟨_, rfl⟩
    obtain ⟨rK, hrK⟩ : ∃ x, x = readK s := ⟨_, rfl⟩
    obtain ⟨rG, hrG⟩ : ∃ x, x = readG s := ⟨_, rfl⟩
    obtain ⟨rB, hrB⟩ : ∃ x, x = readB s := ⟨_, rfl⟩
    rw [← hrE, ← hrK, ← hrG, ← hrB] at hO
    rw [← hrE, ← hrK, ← hrG, ← hrB] at cP
    rw [← hrK, ← hrB] at cG
    clear hrE hrK hrG hrB
    obtain ⟨nE, hnE⟩ : ∃ x, x = gE rK rB := ⟨_, rfl⟩
    obtain ⟨⟨nl, nk, nv, nc⟩, hnd⟩ : ∃ x, x = gN rK rB := ⟨_, rfl⟩
    rw [← hnE, ← hnd] at hO cG
    clear hnE hnd
    have cR : ∀ V a1 d1 k1 a2 d2 k2 a3 d3 k3, k1 = nk.length → k2 = nv.length → k3 = nc.length → IsS V a1 d1 nk → IsS V a2 d2 nv → IsI V a3 d3 nc → Calls Try.prog 30 #[.agg #[.bool nl, .slice a1 k1 d1, .slice a2 k2 d2, .slice a3 k3 d3], .bool rt] V fun e w' => e = .returned (.bool (rightN nl nk nv nc rt)) ∧ Below V.heap.size V w' := fun V a1 d1 k1 a2 d2 k2 a3 d3 k3 h1 h2 h3 i1 i2 i3 => refNodeRight_any nl a1 a2 a3 d1 d2 d3 k1 k2 k3 nk nv nc rt V h1 h2 h3 i1 i2 i3
    by_cases hE : rE = 0
    · subst hE
      by_cases hG : rG ≤ gen
      · have hG' : ¬ gen < rG := by omega
        by_cases hNE : nE = 0
        · subst hNE
          cases hR : rightN nl nk nv nc rt with
          | true =>
            replace hO : O = some (nl, nk, nv, nc) := by rw [hO, if_pos ⟨rfl, hG, rfl, hR⟩]
            rw [hR] at cR
            clear hR hG
            go_enter Try.func14, Try.ntmps14
            go_wp2_with (first
              | (go_at_call 28; rw [← hW]; refine (cP _).mono ?_; rintro y w1 ⟨rfl, hb⟩; have hA : Below w1.heap.size w1 (w1.alloc (.cells #[.int .i64 rK, .int .i64 rG, .string rB] 67)) := (Below.refl _ _).alloc (Nat.le_refl _) _; have b3 := box3_new w1 (.int .i64 rK) (.int .i64 rG) (.string rB) 67; replace HB := Below.tr (Below.tr HB hb) hA; replace BR := (BR.below hb).below hA; replace BW := (BW.below hb).below hA; clear r0 r1 r2 r3 f0 f1 f2 f3 x0 x1 x2 x3 x4; obtain ⟨⟨r0, r1, r2, r3⟩, f0, f1, f2, f3⟩ := id BR; obtain ⟨x0, x1, x2, x3, x4⟩ := id BW; obtain ⟨⟨g0, g1, g2⟩, -⟩ := id b3; clear hb hA b3)
              | (go_at_call 29; refine (cG _).mono ?_; rintro y w2 ⟨k1, a1, d1, k2, a2, d2, k3, a3, d3, rfl, e1, e2, e3, i1, i2, i3, j1, j2, j3, hb⟩; have hA : Below w2.heap.size w2 (w2.alloc (.cells #[.bool nl, .slice a1 k1 d1, .slice a2 k2 d2, .slice a3 k3 d3] 32)) := (Below.refl _ _).alloc (Nat.le_refl _) _; have b4 := box4_new w2 (.bool nl) (.slice a1 k1 d1) (.slice a2 k2 d2) (.slice a3 k3 d3) 32 rfl; have hlo : w.heap.size + 2 ≤ w1.heap.size + 1 := (by have := BR.lt; simp at this; omega); replace HB := Below.tr (Below.tr HB hb) hA; replace BR := (BR.below hb).below hA; clear r0 r1 r2 r3 f0 f1 f2 f3 x0 x1 x2 x3 x4 g0 g1 g2 BW; obtain ⟨⟨r0, r1, r2, r3⟩, f0, f1, f2, f3⟩ := id BR; obtain ⟨⟨m0, m1, m2, m3⟩, -⟩ := id b4; have E : Hid (k1 = nk.length ∧ k2 = nv.length ∧ k3 = nc.length) := ⟨e1, e2, e3⟩; have I : Hid (IsS (w2.alloc (.cells #[.bool nl, .slice a1 k1 d1, .slice a2 k2 d2, .slice a3 k3 d3] 32)) a1 d1 nk ∧ IsS (w2.alloc (.cells #[.bool nl, .slice a1 k1 d1, .slice a2 k2 d2, .slice a3 k3 d3] 32)) a2 d2 nv ∧ IsI (w2.alloc (.cells #[.bool nl, .slice a1 k1 d1, .slice a2 k2 d2, .slice a3 k3 d3] 32)) a3 d3 nc) := ⟨i1.below hA, i2.below hA, i3.below hA⟩; have J : Hid (From (w.heap.size + 2) a1 ∧ From (w.heap.size + 2) a2 ∧ From (w.heap.size + 2) a3) := ⟨j1.mono (by simp; omega), j2.mono (by simp; omega), j3.mono (by simp; omega)⟩; clear hb hA hlo e1 e2 e3 i1 i2 i3 j1 j2 j3)
              | (go_at_call 30; refine (cR _ a1 d1 k1 a2 d2 k2 a3 d3 k3 E.out.1 E.out.2.1 E.out.2.2 I.out.1 I.out.2.1 I.out.2.2).mono ?_; rintro y w3 ⟨rfl, hb⟩; replace HB := Below.tr HB hb; replace BR := BR.below hb; replace b4 := b4.below hb; clear r0 r1 r2 r3 f0 f1 f2 f3 m0 m1 m2 m3; obtain ⟨⟨r0, r1, r2, r3⟩, f0, f1, f2, f3⟩ := id BR; obtain ⟨⟨m0, m1, m2, m3⟩, -⟩ := id b4; replace I : Hid (IsS w3 a1 d1 nk ∧ IsS w3 a2 d2 nv ∧ IsI w3 a3 d3 nc) := ⟨I.out.1.below hb, I.out.2.1.below hb, I.out.2.2.below hb⟩; clear hb))
            have T4 := turns_put4 w3 (w.heap.size + 1) (.bool nl) (.slice a1 k1 d1) (.slice a2 k2 d2) (.slice a3 k3 d3)
            obtain ⟨j1, j2, j3⟩ := J.out
            refine bodyPost_ret (v := .tuple #[.agg #[.bool nl, .slice a1 k1 d1, .slice a2 k2 d2, .slice a3 k3 d3], .bool true]) (by simp [results, Try.results14, go_sem, r0, r1, r2, r3]) rfl ?_
            rw [hO]
            exact ⟨k1, a1, d1, k2, a2, d2, k3, a3, d3, rfl, E.out.1, E.out.2.1, E.out.2.2, I.out.1.turns T4 (fun x hx e => by have := j1 x hx; omega), I.out.2.1.turns T4 (fun x hx e => by have := j2 x hx; omega), I.out.2.2.turns T4 (fun x hx e => by have := j3 x hx; omega), j1.mono (by omega), j2.mono (by omega), j3.mono (by omega), below_put4 HB hle _ _ _ _⟩
          | false =>
            replace hO : O = none := by rw [hO, if_neg (fun h => by rw [hR] at h; exact absurd h.2.2.2 (by decide))]
            rw [hR] at cR
            clear hR hG
            go_enter Try.func14, Try.ntmps14
            go_wp2_with (first
              | (go_at_call 28; rw [← hW]; refine (cP _).mono ?_; rintro y w1 ⟨rfl, hb⟩; have hA : Below w1.heap.size w1 (w1.alloc (.cells #[.int .i64 rK, .int .i64 rG, .string rB] 67)) := (Below.refl _ _).alloc (Nat.le_refl _) _; have b3 := box3_new w1 (.int .i64 rK) (.int .i64 rG) (.string rB) 67; replace HB := Below.tr (Below.tr HB hb) hA; replace BR := (BR.below hb).below hA; replace BW := (BW.below hb).below hA; clear r0 r1 r2 r3 f0 f1 f2 f3 x0 x1 x2 x3 x4; obtain ⟨⟨r0, r1, r2, r3⟩, f0, f1, f2, f3⟩ := id BR; obtain ⟨x0, x1, x2, x3, x4⟩ := id BW; obtain ⟨⟨g0, g1, g2⟩, -⟩ := id b3; clear hb hA b3)
              | (go_at_call 29; refine (cG _).mono ?_; rintro y w2 ⟨k1, a1, d1, k2, a2, d2, k3, a3, d3, rfl, e1, e2, e3, i1, i2, i3, j1, j2, j3, hb⟩; have hA : Below w2.heap.size w2 (w2.alloc (.cells #[.bool nl, .slice a1 k1 d1, .slice a2 k2 d2, .slice a3 k3 d3] 32)) := (Below.refl _ _).alloc (Nat.le_refl _) _; have b4 := box4_new w2 (.bool nl) (.slice a1 k1 d1) (.slice a2 k2 d2) (.slice a3 k3 d3) 32 rfl; have hlo : w.heap.size + 2 ≤ w1.heap.size + 1 := (by have := BR.lt; simp at this; omega); replace HB := Below.tr (Below.tr HB hb) hA; replace BR := (BR.below hb).below hA; clear r0 r1 r2 r3 f0 f1 f2 f3 x0 x1 x2 x3 x4 g0 g1 g2 BW; obtain ⟨⟨r0, r1, r2, r3⟩, f0, f1, f2, f3⟩ := id BR; obtain ⟨⟨m0, m1, m2, m3⟩, -⟩ := id b4; have E : Hid (k1 = nk.length ∧ k2 = nv.length ∧ k3 = nc.length) := ⟨e1, e2, e3⟩; have I : Hid (IsS (w2.alloc (.cells #[.bool nl, .slice a1 k1 d1, .slice a2 k2 d2, .slice a3 k3 d3] 32)) a1 d1 nk ∧ IsS (w2.alloc (.cells #[.bool nl, .slice a1 k1 d1, .slice a2 k2 d2, .slice a3 k3 d3] 32)) a2 d2 nv ∧ IsI (w2.alloc (.cells #[.bool nl, .slice a1 k1 d1, .slice a2 k2 d2, .slice a3 k3 d3] 32)) a3 d3 nc) := ⟨i1.below hA, i2.below hA, i3.below hA⟩; have J : Hid (From (w.heap.size + 2) a1 ∧ From (w.heap.size + 2) a2 ∧ From (w.heap.size + 2) a3) := ⟨j1.mono (by simp; omega), j2.mono (by simp; omega), j3.mono (by simp; omega)⟩; clear hb hA hlo e1 e2 e3 i1 i2 i3 j1 j2 j3)
              | (go_at_call 30; refine (cR _ a1 d1 k1 a2 d2 k2 a3 d3 k3 E.out.1 E.out.2.1 E.out.2.2 I.out.1 I.out.2.1 I.out.2.2).mono ?_; rintro y w3 ⟨rfl, hb⟩; replace HB := Below.tr HB hb; replace BR := BR.below hb; replace b4 := b4.below hb; clear r0 r1 r2 r3 f0 f1 f2 f3 m0 m1 m2 m3; obtain ⟨⟨r0, r1, r2, r3⟩, f0, f1, f2, f3⟩ := id BR; obtain ⟨⟨m0, m1, m2, m3⟩, -⟩ := id b4; replace I : Hid (IsS w3 a1 d1 nk ∧ IsS w3 a2 d2 nv ∧ IsI w3 a3 d3 nc) := ⟨I.out.1.below hb, I.out.2.1.below hb, I.out.2.2.below hb⟩; clear hb))
            refine bodyPost_ret (v := .tuple #[.agg #[.bool false, .slice none 0 0, .slice none 0 0, .slice none 0 0], .bool false]) (by simp [results, Try.results14, go_sem, r0, r1, r2, r3]) rfl ?_
            rw [hO]
            exact ⟨rfl, below_put4 HB hle _ _ _ _⟩
        · replace hO : O = none := by rw [hO, if_neg (fun h => hNE h.2.2.1)]
          clear hG
          go_enter Try.func14, Try.ntmps14
          go_wp2_with (first
            | (go_at_call 28; rw [← hW]; refine (cP _).mono ?_; rintro y w1 ⟨rfl, hb⟩; have hA : Below w1.heap.size w1 (w1.alloc (.cells #[.int .i64 rK, .int .i64 rG, .string rB] 67)) := (Below.refl _ _).alloc (Nat.le_refl _) _; have b3 := box3_new w1 (.int .i64 rK) (.int .i64 rG) (.string rB) 67; replace HB := Below.tr (Below.tr HB hb) hA; replace BR := (BR.below hb).below hA; replace BW := (BW.below hb).below hA; clear r0 r1 r2 r3 f0 f1 f2 f3 x0 x1 x2 x3 x4; obtain ⟨⟨r0, r1, r2, r3⟩, f0, f1, f2, f3⟩ := id BR; obtain ⟨x0, x1, x2, x3, x4⟩ := id BW; obtain ⟨⟨g0, g1, g2⟩, -⟩ := id b3; clear hb hA b3)
            | (go_at_call 29; refine (cG _).mono ?_; rintro y w2 ⟨k1, a1, d1, k2, a2, d2, k3, a3, d3, rfl, e1, e2, e3, i1, i2, i3, j1, j2, j3, hb⟩; have hA : Below w2.heap.size w2 (w2.alloc (.cells #[.bool nl, .slice a1 k1 d1, .slice a2 k2 d2, .slice a3 k3 d3] 32)) := (Below.refl _ _).alloc (Nat.le_refl _) _; have b4 := box4_new w2 (.bool nl) (.slice a1 k1 d1) (.slice a2 k2 d2) (.slice a3 k3 d3) 32 rfl; have hlo : w.heap.size + 2 ≤ w1.heap.size + 1 := (by have := BR.lt; simp at this; omega); replace HB := Below.tr (Below.tr HB hb) hA; replace BR := (BR.below hb).below hA; clear r0 r1 r2 r3 f0 f1 f2 f3 x0 x1 x2 x3 x4 g0 g1 g2 BW; obtain ⟨⟨r0, r1, r2, r3⟩, f0, f1, f2, f3⟩ := id BR; obtain ⟨⟨m0, m1, m2, m3⟩, -⟩ := id b4; have E : Hid (k1 = nk.length ∧ k2 = nv.length ∧ k3 = nc.length) := ⟨e1, e2, e3⟩; have I : Hid (IsS (w2.alloc (.cells #[.bool nl, .slice a1 k1 d1, .slice a2 k2 d2, .slice a3 k3 d3] 32)) a1 d1 nk ∧ IsS (w2.alloc (.cells #[.bool nl, .slice a1 k1 d1, .slice a2 k2 d2, .slice a3 k3 d3] 32)) a2 d2 nv ∧ IsI (w2.alloc (.cells #[.bool nl, .slice a1 k1 d1, .slice a2 k2 d2, .slice a3 k3 d3] 32)) a3 d3 nc) := ⟨i1.below hA, i2.below hA, i3.below hA⟩; have J : Hid (From (w.heap.size + 2) a1 ∧ From (w.heap.size + 2) a2 ∧ From (w.heap.size + 2) a3) := ⟨j1.mono (by simp; omega), j2.mono (by simp; omega), j3.mono (by simp; omega)⟩; clear hb hA hlo e1 e2 e3 i1 i2 i3 j1 j2 j3))
          refine bodyPost_ret (v := .tuple #[.agg #[.bool false, .slice none 0 0, .slice none 0 0, .slice none 0 0], .bool false]) (by simp [results, Try.results14, go_sem, r0, r1, r2, r3]) rfl ?_
          rw [hO]
          exact ⟨rfl, below_put4 HB hle _ _ _ _⟩
      · have hG' : gen < rG := by omega
        replace hO : O = none := by rw [hO, if_neg (fun h => hG h.2.1)]
        clear hG
        go_enter Try.func14, Try.ntmps14
        go_wp2_with (go_at_call 28; rw [← hW]; refine (cP _).mono ?_; rintro y w1 ⟨rfl, hb⟩; have hA : Below w1.heap.size w1 (w1.alloc (.cells #[.int .i64 rK, .int .i64 rG, .string rB] 67)) := (Below.refl _ _).alloc (Nat.le_refl _) _; have b3 := box3_new w1 (.int .i64 rK) (.int .i64 rG) (.string rB) 67; replace HB := Below.tr (Below.tr HB hb) hA; replace BR := (BR.below hb).below hA; replace BW := (BW.below hb).below hA; clear r0 r1 r2 r3 f0 f1 f2 f3 x0 x1 x2 x3 x4; obtain ⟨⟨r0, r1, r2, r3⟩, f0, f1, f2, f3⟩ := id BR; obtain ⟨x0, x1, x2, x3, x4⟩ := id BW; obtain ⟨⟨g0, g1, g2⟩, -⟩ := id b3; clear hb hA b3)
        refine bodyPost_ret (v := .tuple #[.agg #[.bool false, .slice none 0 0, .slice none 0 0, .slice none 0 0], .bool false]) (by simp [results, Try.results14, go_sem, r0, r1, r2, r3]) rfl ?_
        rw [hO]
        exact ⟨rfl, below_put4 HB hle _ _ _ _⟩
    · replace hO : O = none := by rw [hO, if_neg (fun h => hE h.1)]
      go_enter Try.func14, Try.ntmps14
      go_wp2_with (go_at_call 28; rw [← hW]; refine (cP _).mono ?_; rintro y w1 ⟨rfl, hb⟩; have hA : Below w1.heap.size w1 (w1.alloc (.cells #[.int .i64 rK, .int .i64 rG, .string rB] 67)) := (Below.refl _ _).alloc (Nat.le_refl _) _; have b3 := box3_new w1 (.int .i64 rK) (.int .i64 rG) (.string rB) 67; replace HB := Below.tr (Below.tr HB hb) hA; replace BR := (BR.below hb).below hA; replace BW := (BW.below hb).below hA; clear r0 r1 r2 r3 f0 f1 f2 f3 x0 x1 x2 x3 x4; obtain ⟨⟨r0, r1, r2, r3⟩, f0, f1, f2, f3⟩ := id BR; obtain ⟨x0, x1, x2, x3, x4⟩ := id BW; obtain ⟨⟨g0, g1, g2⟩, -⟩ := id b3; clear hb hA b3)
      refine bodyPost_ret (v := .tuple #[.agg #[.bool false, .slice none 0 0, .slice none 0 0, .slice none 0 0], .bool false]) (by simp [results, Try.results14, go_sem, r0, r1, r2, r3]) rfl ?_
      rw [hO]
      exact ⟨rfl, below_put4 HB hle _ _ _ _⟩
  · have hO : O = none := by rw [hO']; unfold holdsS; rw [if_neg hin]
    clear hO'
    by_cases h10 : block < 10
    · clear hin hn' hp hB' hP
      go_enter Try.func14, Try.ntmps14
      go_wp2
      refine bodyPost_ret (v := .tuple #[.agg #[.bool false, .slice none 0 0, .slice none 0 0, .slice none 0 0], .bool false]) (by simp [results, Try.results14, go_sem, r0, r1, r2, r3]) rfl ?_
      rw [hW] at HB
      first
        | exact ⟨rfl, HB⟩
        | (rw [hO]; exact ⟨rfl, HB⟩)
    · by_cases hl1 : block < n'
      · have hl1' : ¬ (n' : Int) ≤ block := by omega
        by_cases hl2 : block < p
        · have hl2' : ¬ (p : Int) ≤ block := by omega
          obtain ⟨i, rfl⟩ : ∃ i : Nat, block = i := ⟨block.toNat, by omega⟩
          have hi1 : i < ns.length := by omega
          have hgn : ns[i]? = some false := by
            rw [List.getElem?_eq_getElem hi1]
            refine congrArg some (Bool.eq_false_iff.2 fun h => hin ⟨by omega, by omega, by omega, ?_⟩)
            rw [Int.toNat_natCast, List.getD_eq_getElem?_getD, List.getElem?_eq_getElem hi1]
            exact h
          obtain ⟨b1, o1, rfl, hlb1, hc1⟩ := hB'.2.2 i false hgn
          have z1 := cell_below HB hc1
          rw [hW] at z1
          clear hin hn' hp hB' hP hgn hi1 hc1 hlb1
          go_enter Try.func14, Try.ntmps14
          go_wp2
          refine bodyPost_ret (v := .tuple #[.agg #[.bool false, .slice none 0 0, .slice none 0 0, .slice none 0 0], .bool false]) (by simp [results, Try.results14, go_sem, r0, r1, r2, r3]) rfl ?_
          rw [hW] at HB
          first
            | exact ⟨rfl, HB⟩
            | (rw [hO]; exact ⟨rfl, HB⟩)
        · have hl2' : (p : Int) ≤ block := by omega
          clear hin hn' hp hB' hP
          go_enter Try.func14, Try.ntmps14
          go_wp2
          refine bodyPost_ret (v := .tuple #[.agg #[.bool false, .slice none 0 0, .slice none 0 0, .slice none 0 0], .bool false]) (by simp [results, Try.results14, go_sem, r0, r1, r2, r3]) rfl ?_
          rw [hW] at HB
          first
            | exact ⟨rfl, HB⟩
            | (rw [hO]; exact ⟨rfl, HB⟩)
      · have hl1' : (n' : Int) ≤ block := by omega
        clear hin hn' hp hB' hP
        go_enter Try.func14, Try.ntmps14
        go_wp2
        refine bodyPost_ret (v := .tuple #[.agg #[.bool false, .slice none 0 0, .slice none 0 0, .slice none 0 0], .bool false]) (by simp [results, Try.results14, go_sem, r0, r1, r2, r3]) rfl ?_
        rw [hW] at HB
        first
          | exact ⟨rfl, HB⟩
          | (rw [hO]; exact ⟨rfl, HB⟩)

end Go.Proofs.Ytmldemgciidpbaa

namespace Go.Proofs.Ytmldemgciidpbaa
open Go.RowKit Plain
set_option linter.unusedVariables false

theorem all_more {α : Type} {f : α → Bool} {xs : List α} {j : Nat} {x : α} (hx : xs[j]? = some x) : (xs.take (j + 1)).all f = ((xs.take j).all f && f x) := by
  rw [List.take_add_one, hx]
  simp

theorem holds_right {ns : List Bool} {ps : List ByteArray} {gen block : Int} {rt : Bool} {nd : NodeS} (h : holdsS ns ps gen block rt = some nd) : rightN nd.1 nd.2.1 nd.2.2.1 nd.2.2.2 rt = true := by
  unfold holdsS at h
  split at h
  · unfold pageN at h
    split at h
    · rename_i hh
      cases h
      exact hh.2.2.2
    · cases h
  · cases h

theorem holds_len {ns : List Bool} {ps : List ByteArray} {gen : Int} : ∀ b r (nd : NodeS), holdsS ns ps gen b r = some nd → nd.2.1.length ≤ 9 ∧ nd.2.2.2.length ≤ 10 ∧ (nd.1 = true → nd.2.2.1.length = nd.2.1.length) ∧ (nd.1 = false → nd.2.2.2.length = nd.2.1.length + 1) := by
  intro b r nd h
  obtain ⟨l, ks, vs, cs⟩ := nd
  have hs : standsN l ks vs cs = true := (rightN_iff.1 (holds_right h)).1
  obtain ⟨h9, _, _, _, _, hsh⟩ := standsN_iff.1 hs
  cases l with
  | true =>
    have := shape_leaf.1 hsh
    refine ⟨h9, ?_, fun _ => ?_, fun e => Bool.noConfusion e⟩
    · show cs.length ≤ 10; omega
    · show vs.length = ks.length; omega
  | false =>
    have := shape_inner.1 hsh
    refine ⟨h9, ?_, fun e => Bool.noConfusion e, fun _ => ?_⟩
    · show cs.length ≤ 10; omega
    · show cs.length = ks.length + 1; omega

/-- A wood's tree. -/
def treeS (ns : List Bool) (ps : List ByteArray) (root gen : Int) : TreeS := if root = 0 then TreeS.none else belowS (holdsS ns ps gen) 8 TreeS.none root ⟨#[]⟩ ⟨#[]⟩

set_option maxRecDepth 20000 in
set_option maxHeartbeats 2000000 in
/-- TREE. -/
theorem tree_any (a a' b : Option Addr) (n c n' c' p f : Nat) (ns : List Bool) (ps : List ByteArray) (root gen : Int) (w : World) (hn' : n' = ns.length) (hp : p = ps.length) (hB' : IsB w a' c' ns) (hP : IsS w b f ps) :
    Calls Try.prog 16 #[.agg #[.slice a n c, .slice a' n' c', .slice b p f, .int .i64 root, .int .i64 gen]] w fun x w' => ∃ u1 u2, x = .returned (.pointer (some ⟨w.heap.size + 1, 0, none⟩)) ∧ TreeAt w' (w.heap.size + 1) (w.heap.size + 2) u1 u2 (treeS ns ps root gen) ∧ Below w.heap.size w w' := by
  obtain ⟨W, hW⟩ : ∃ W, W = (w.alloc (.cells #[.slice a n c, .slice a' n' c', .slice b p f, .int .i64 root, .int .i64 gen] 27)).alloc (.cells #[.slice none 0 0, .slice none 0 0, .int .i64 0, .bool false] 46) := ⟨_, rfl⟩
  have HB : Below w.heap.size w W := by rw [hW]; exact ((Below.refl _ _).alloc (Nat.le_refl _) _).alloc (by simp) _
  have BW : WoodBox W w.heap.size (.slice a n c) (.slice a' n' c') (.slice b p f) (.int .i64 root) (.int .i64 gen) := by rw [hW]; exact (woodBox_new _ _ _ _ _ _ _ rfl).below ((Below.refl _ _).alloc (Nat.le_refl _) _)
  have T0 : TreeAt W (w.heap.size + 1) (w.heap.size + 2) (.slice none 0 0) (.slice none 0 0) TreeS.none := by
    rw [hW]
    exact ⟨box4_new _ _ _ _ _ _ (by simp), ⟨rfl, .inl ⟨rfl, rfl⟩⟩, ⟨rfl, .inl ⟨rfl, rfl⟩⟩, apart_nil _ _, by omega, by simp⟩
  have hle : w.heap.size ≤ w.heap.size + 1 := by omega
  have cB : ∀ V, Below w.heap.size w V → TreeAt V (w.heap.size + 1) (w.heap.size + 2) (.slice none 0 0) (.slice none 0 0) TreeS.none → Calls Try.prog 32 #[.pointer (some ⟨w.heap.size + 1, 0, none⟩), .agg #[.slice a n c, .slice a' n' c', .slice b p f, .int .i64 root, .int .i64 gen], .int .i64 root, .int .i64 1, .string ⟨#[]⟩, .string ⟨#[]⟩] V fun e V' => e = .returned (.tuple #[]) ∧ ∃ u1' u2', TreeAt V' (w.heap.size + 1) (w.heap.size + 2) u1' u2' (belowS (holdsS ns ps gen) 8 TreeS.none root ⟨#[]⟩ ⟨#[]⟩) ∧ Grows (w.heap.size + 1) (.slice none 0 0) (.slice none 0 0) V u1' u2' V' := fun V hV T =>
    below_any (w := w) (H := holdsS ns ps gen) (w.heap.size + 1) (w.heap.size + 2) a a' b n c n' c' p f root gen hle
      (fun V block r hb h => by
        have := holds_any a a' b n c n' c' p f ns ps root gen block r V hn' hp (hB'.below hb) (hP.below hb)
        rw [h] at this
        exact this)
      (fun V block r nd hb h => by
        have := holds_any a a' b n c n' c' p f ns ps root gen block r V hn' hp (hB'.below hb) (hP.below hb)
        rw [h] at this
        exact this)
      holds_len 8 (by decide) V _ _ TreeS.none root ⟨#[]⟩ ⟨#[]⟩ hV T (by decide) (by decide)
  obtain ⟨x0, x1, x2, x3, x4⟩ := id (hW ▸ BW)
  clear hn' hp hB' hP
  by_cases hr : root = 0
  · have ht : treeS ns ps root gen = TreeS.none := by unfold treeS; rw [if_pos hr]
    rw [ht]
    subst hr
    clear ht cB
    go_enter Try.func16, Try.ntmps16
    go_wp2
    go_ret
    exact ⟨_, _, rfl, hW ▸ T0, hW ▸ HB⟩
  · have ht : treeS ns ps root gen = belowS (holdsS ns ps gen) 8 TreeS.none root ⟨#[]⟩ ⟨#[]⟩ := by unfold treeS; rw [if_neg hr]
    rw [ht]
    clear ht
    go_enter Try.func16, Try.ntmps16
    go_wp2_with (go_at_call 32; rw [← hW]; refine (cB _ HB T0).mono ?_; rintro y w1 ⟨rfl, v1, v2, D, G⟩)
    have HB1 := Grows.low (S := 0) T0 G HB hle
    go_ret
    exact ⟨v1, v2, rfl, D, HB1⟩

set_option maxRecDepth 20000 in
set_option maxHeartbeats 2000000 in
/-- RIGHT. -/
theorem refRightW_any (a a' b : Option Addr) (n c n' c' p f : Nat) (bs ns : List Bool) (ps : List ByteArray) (root gen : Int) (w : World) (hn : n = bs.length) (hn' : n' = ns.length) (hp : p = ps.length) (hB : IsB w a c bs) (hB' : IsB w a' c' ns) (hP : IsS w b f ps) :
    Calls Try.prog 11 #[.agg #[.slice a n c, .slice a' n' c', .slice b p f, .int .i64 root, .int .i64 gen]] w fun e w' => e = .returned (.bool (rightW bs ns ps root gen)) ∧ Below w.heap.size w w' := by
  obtain ⟨W, hW⟩ : ∃ W, W = (w.alloc (.cells #[.slice a n c, .slice a' n' c', .slice b p f, .int .i64 root, .int .i64 gen] 27)).alloc (.cells #[.slice a n c, .slice a' n' c'] 24) := ⟨_, rfl⟩
  have HB : Below w.heap.size w W := by rw [hW]; exact ((Below.refl _ _).alloc (Nat.le_refl _) _).alloc (by simp) _
  have BW : WoodBox W w.heap.size (.slice a n c) (.slice a' n' c') (.slice b p f) (.int .i64 root) (.int .i64 gen) := by rw [hW]; exact (woodBox_new _ _ _ _ _ _ _ rfl).below ((Below.refl _ _).alloc (Nat.le_refl _) _)
  have cA := allocRefRight_any a a' c c' n n' bs ns W hn hn' (hB.below HB) (hB'.below HB)
  have mn : n' ≤ 9223372036854775807 := by rw [hn']; exact Nat.le_trans hB'.1 hB'.2.1
  have mp : p ≤ 9223372036854775807 := by rw [hp]; exact Nat.le_trans hP.1 hP.2.1
  obtain ⟨r, hr⟩ : ∃ r, r = rightW bs ns ps root gen := ⟨_, rfl⟩
  rw [← hr]
  unfold rightW at hr
  have EP : Hid (p = ps.length) := hp
  have EN : Hid (n' = ns.length) := hn'
  have RP : Hid (IsS w b f ps) := hP
  obtain ⟨x0, x1, x2, x3, x4⟩ := id (hW ▸ BW)
  clear hn hn' hp hB hB' hP
  cases hA : rightA bs ns with
  | false =>
    rw [hA] at hr cA
    replace hr : r = false := by rw [hr]; simp
    clear hA
    go_enter Try.func11, Try.ntmps11
    go_wp2_with (go_at_call 23; rw [← hW]; refine cA.mono ?_; rintro y w1 ⟨rfl, hb⟩; replace HB := Below.tr HB hb; replace BW := BW.below hb; clear x0 x1 x2 x3 x4; obtain ⟨x0, x1, x2, x3, x4⟩ := id BW; clear hb)
    go_ret
    exact ⟨by rw [hr]; rfl, HB⟩
  | true =>
    rw [hA] at hr cA
    clear hA
    by_cases h1 : p = n'
    · by_cases h2 : 1 ≤ gen
      · have h2' : ¬ gen < 1 := by omega
        by_cases h3 : gen ≤ 1099511627776
        · have h3' : ¬ 1099511627776 < gen := by omega
          have hr1 : Hid (r = (ps.all (fun s => decide (s.size ≤ 4096)) && (decide (root = 0) || (decide (10 ≤ root) && decide (root < ns.length))))) := by
            show _ = _
            rw [hr, decide_eq_true (show ps.length = ns.length by rw [← EP.out, ← EN.out]; exact h1), decide_eq_true h2, decide_eq_true h3]
            rfl
          have h1' : ((p : Int) != n') = false := by simp [h1]
          clear hr h1
          go_enter Try.func11, Try.ntmps11
          go_wp2_with (go_at_call 23; rw [← hW]; refine cA.mono ?_; rintro y w1 ⟨rfl, hb⟩; replace HB := Below.tr HB hb; replace BW := BW.below hb; clear x0 x1 x2 x3 x4; obtain ⟨x0, x1, x2, x3, x4⟩ := id BW; clear hb)
          go_loop [39] (fun v => ∃ j : Nat, j ≤ p ∧ v = .int .i64 j ∧ (ps.take j).all (fun s => decide (s.size ≤ 4096)) = true) (fun v => p - (intOf v).toNat)
          case atStart => exact ⟨0, by omega, rfl, rfl⟩
          case round =>
            obtain ⟨j, hj, rfl, hA⟩ := hrel
            have HA : Hid ((ps.take j).all (fun s => decide (s.size ≤ 4096)) = true) := hA
            clear hA
            by_cases hlt : j < p
            · have hlt' : (j : Int) < p := by omega
              obtain ⟨s, hs⟩ : ∃ x, Hid (ps[j]? = some x) := get_some (by rw [← EP.out]; exact hlt)
              obtain ⟨b1, o1, rfl, -, hc0, hss⟩ := RP.out.2.2 j s hs.out
              have hc := cell_below HB hc0
              clear hc0
              by_cases hsz : s.size ≤ 4096
              · have hsz' : ¬ (4096 : Int) < s.size := by omega
                go_wp2
                go_round
                case rel => exact ⟨j + 1, by omega, by go_num, by rw [all_more hs.out, HA.out, decide_eq_true hsz]; rfl⟩
                case measure => simp [intOf]; omega
              · have hsz' : (4096 : Int) < s.size := by omega
                have hrf : Hid (r = false) := by
                  show _ = _
                  rw [hr1.out, List.all_eq_false.2 ⟨s, List.mem_of_getElem? hs.out, by simpa using hsz⟩]
                  rfl
                go_wp2
                go_ret
                exact ⟨by rw [hrf.out]; rfl, HB⟩
            · obtain rfl : p = j := by omega
              have hj0 : ¬ (p : Int) < p := by omega
              have hall : ps.all (fun s => decide (s.size ≤ 4096)) = true := by
                have := HA.out
                rw [EP.out, List.take_length] at this
                exact this
              by_cases hr0 : root = 0
              · have hrf : Hid (r = true) := by show _ = _; rw [hr1.out, hall, decide_eq_true hr0]; rfl
                clear hall
                subst hr0
                go_wp2
                go_ret
                exact ⟨by rw [hrf.out]; rfl, HB⟩
              · have hr00 : (root == 0) = false := by simpa using hr0
                by_cases hr10 : 10 ≤ root
                · have hr10' : ¬ root < 10 := by omega
                  have hrf : Hid (r = decide (root < (n' : Int))) := by show _ = _; rw [hr1.out, hall, decide_eq_false hr0, decide_eq_true hr10, EN.out]; rfl
                  clear hall
                  go_wp2
                  go_ret
                  exact ⟨by rw [hrf.out]; rfl, HB⟩
                · have hr10' : root < 10 := by omega
                  have hrf : Hid (r = false) := by show _ = _; rw [hr1.out, hall, decide_eq_false hr0, decide_eq_false hr10]; rfl
                  clear hall
                  go_wp2
                  go_ret
                  exact ⟨by rw [hrf.out]; rfl, HB⟩
        · have h3' : 1099511627776 < gen := by omega
          have h1' : ((p : Int) != n') = false := by simp [h1]
          replace hr : r = false := by rw [hr, decide_eq_false h3]; simp
          clear h1
          go_enter Try.func11, Try.ntmps11
          go_wp2_with (go_at_call 23; rw [← hW]; refine cA.mono ?_; rintro y w1 ⟨rfl, hb⟩; replace HB := Below.tr HB hb; replace BW := BW.below hb; clear x0 x1 x2 x3 x4; obtain ⟨x0, x1, x2, x3, x4⟩ := id BW; clear hb)
          go_ret
          exact ⟨by rw [hr]; rfl, HB⟩
      · have h2' : gen < 1 := by omega
        have h1' : ((p : Int) != n') = false := by simp [h1]
        replace hr : r = false := by rw [hr, decide_eq_false h2]; simp
        clear h1
        go_enter Try.func11, Try.ntmps11
        go_wp2_with (go_at_call 23; rw [← hW]; refine cA.mono ?_; rintro y w1 ⟨rfl, hb⟩; replace HB := Below.tr HB hb; replace BW := BW.below hb; clear x0 x1 x2 x3 x4; obtain ⟨x0, x1, x2, x3, x4⟩ := id BW; clear hb)
        go_ret
        exact ⟨by rw [hr]; rfl, HB⟩
    · have h1' : ((p : Int) != n') = true := by simp; omega
      replace hr : r = false := by rw [hr, decide_eq_false (show ¬ ps.length = ns.length by rw [← EP.out, ← EN.out]; exact h1)]; simp
      go_enter Try.func11, Try.ntmps11
      go_wp2_with (go_at_call 23; rw [← hW]; refine cA.mono ?_; rintro y w1 ⟨rfl, hb⟩; replace HB := Below.tr HB hb; replace BW := BW.below hb; clear x0 x1 x2 x3 x4; obtain ⟨x0, x1, x2, x3, x4⟩ := id BW; clear hb)
      go_ret
      exact ⟨by rw [hr]; rfl, HB⟩

end Go.Proofs.Ytmldemgciidpbaa

namespace Go.Proofs.Ytmldemgciidpbaa
open Go.RowKit Plain
set_option linter.unusedVariables false

set_option maxRecDepth 20000 in
theorem haveRoom_any (b : Option Addr) (p f : Nat) (ps : List ByteArray) (w : World) (hp : p = ps.length) (hP : IsS w b f ps) :
    Calls Try.prog 25 #[.slice b p f] w fun e w' => e = .returned (.bool (ps.all fun s => decide (s.size ≤ 4096))) ∧ Below w.heap.size w w' := by
  have mp : p ≤ 9223372036854775807 := by rw [hp]; exact Nat.le_trans hP.1 hP.2.1
  have EP : Hid (p = ps.length) := hp
  have RP : Hid (IsS w b f ps) := hP
  have HB : Below w.heap.size w w := Below.refl _ _
  obtain ⟨r, hr⟩ : ∃ r, Hid (r = ps.all fun s => decide (s.size ≤ 4096)) := ⟨_, rfl⟩
  rw [← hr.out]
  clear hp hP
  go_enter Try.func25, Try.ntmps25
  go_wp2
  go_loop [7] (fun v => ∃ j : Nat, j ≤ p ∧ v = .int .i64 j ∧ (ps.take j).all (fun s => decide (s.size ≤ 4096)) = true) (fun v => p - (intOf v).toNat)
  case atStart => exact ⟨0, by omega, rfl, rfl⟩
  case round =>
    obtain ⟨j, hj, rfl, hA⟩ := hrel
    have HA : Hid ((ps.take j).all (fun s => decide (s.size ≤ 4096)) = true) := hA
    clear hA
    by_cases hlt : j < p
    · have hlt' : (j : Int) < p := by omega
      obtain ⟨s, hs⟩ : ∃ x, Hid (ps[j]? = some x) := get_some (by rw [← EP.out]; exact hlt)
      obtain ⟨b1, o1, rfl, -, hc, hss⟩ := RP.out.2.2 j s hs.out
      by_cases hsz : s.size ≤ 4096
      · have hsz' : ¬ (4096 : Int) < s.size := by omega
        go_wp2
        go_round
        case rel => exact ⟨j + 1, by omega, by go_num, by rw [all_more hs.out, HA.out, decide_eq_true hsz]; rfl⟩
        case measure => simp [intOf]; omega
      · have hsz' : (4096 : Int) < s.size := by omega
        have hrf : Hid (r = false) := by
          show _ = _
          rw [hr.out, List.all_eq_false.2 ⟨s, List.mem_of_getElem? hs.out, by simpa using hsz⟩]
        go_wp2
        go_ret
        exact ⟨by rw [hrf.out]; rfl, HB⟩
    · obtain rfl : p = j := by omega
      have hj0 : ¬ (p : Int) < p := by omega
      have hall : Hid (r = true) := by
        show _ = _
        have := HA.out
        rw [EP.out, List.take_length] at this
        rw [hr.out]
        exact this
      go_wp2
      go_ret
      exact ⟨by rw [hall.out]; rfl, HB⟩

set_option maxRecDepth 20000 in
theorem behind_any (a a' b : Option Addr) (n c n' c' p f : Nat) (root gen block : Int) (w : World) (mn : n' ≤ 9223372036854775807) :
    Calls Try.prog 26 #[.agg #[.slice a n c, .slice a' n' c', .slice b p f, .int .i64 root, .int .i64 gen], .int .i64 block] w fun e w' => e = .returned (.bool (decide (10 ≤ block) && decide (block < (n' : Int)))) ∧ Below w.heap.size w w' := by
  have HB : Below w.heap.size w (w.alloc (.cells #[.slice a n c, .slice a' n' c', .slice b p f, .int .i64 root, .int .i64 gen] 27)) := (Below.refl _ _).alloc (Nat.le_refl _) _
  have BW := woodBox_new w (.slice a n c) (.slice a' n' c') (.slice b p f) (.int .i64 root) (.int .i64 gen) 27 rfl
  obtain ⟨x0, x1, x2, x3, x4⟩ := BW
  obtain ⟨r, hr⟩ : ∃ r, r = (decide (10 ≤ block) && decide (block < (n' : Int))) := ⟨_, rfl⟩
  rw [← hr]
  by_cases h1 : 10 ≤ block
  · have hr' : Hid (r = decide (block < (n' : Int))) := by show _ = _; rw [hr, decide_eq_true h1]; rfl
    clear hr
    go_enter Try.func26, Try.ntmps26
    go_wp2
    go_ret
    exact ⟨by rw [hr'.out]; rfl, HB⟩
  · have hr' : Hid (r = false) := by show _ = _; rw [hr, decide_eq_false h1]; rfl
    have h1' : ¬ 10 ≤ block := h1
    clear hr
    go_enter Try.func26, Try.ntmps26
    go_wp2
    go_ret
    exact ⟨by rw [hr'.out]; rfl, HB⟩


set_option maxRecDepth 20000 in
set_option maxHeartbeats 2000000 in
/-- RIGHT. -/
theorem lookRight_any (a a' b : Option Addr) (n c n' c' p f : Nat) (bs ns : List Bool) (ps : List ByteArray) (root gen : Int) (w : World) (hn : n = bs.length) (hn' : n' = ns.length) (hp : p = ps.length) (hB : IsB w a c bs) (hB' : IsB w a' c' ns) (hP : IsS w b f ps) :
    Calls Try.prog 12 #[.agg #[.slice a n c, .slice a' n' c', .slice b p f, .int .i64 root, .int .i64 gen]] w fun e w' => e = .returned (.bool (rightW bs ns ps root gen)) ∧ Below w.heap.size w w' := by
  obtain ⟨W, hW⟩ : ∃ W, W = w.alloc (.cells #[.slice a n c, .slice a' n' c', .slice b p f, .int .i64 root, .int .i64 gen] 27) := ⟨_, rfl⟩
  have HB : Below w.heap.size w W := by rw [hW]; exact (Below.refl _ _).alloc (Nat.le_refl _) _
  have BW : WoodBox W w.heap.size (.slice a n c) (.slice a' n' c') (.slice b p f) (.int .i64 root) (.int .i64 gen) := by rw [hW]; exact woodBox_new _ _ _ _ _ _ _ rfl
  have cA := allocRight_any a a' c c' n n' bs ns W hn hn' (hB.below HB) (hB'.below HB)
  have cH0 : ∀ V, Below w.heap.size w V → Calls Try.prog 25 #[.slice b p f] V fun e w' => e = .returned (.bool (ps.all fun s => decide (s.size ≤ 4096))) ∧ Below V.heap.size V w' := fun V hV => haveRoom_any b p f ps V hp (hP.below hV)
  have mn : n' ≤ 9223372036854775807 := by rw [hn']; exact Nat.le_trans hB'.1 hB'.2.1
  have mp : p ≤ 9223372036854775807 := by rw [hp]; exact Nat.le_trans hP.1 hP.2.1
  have cB0 : ∀ V, Calls Try.prog 26 #[.agg #[.slice a n c, .slice a' n' c', .slice b p f, .int .i64 root, .int .i64 gen], .int .i64 root] V fun e w' => e = .returned (.bool (decide (10 ≤ root) && decide (root < (n' : Int)))) ∧ Below V.heap.size V w' := fun V => behind_any a a' b n c n' c' p f root gen root V mn
  obtain ⟨r, hr⟩ : ∃ r, r = rightW bs ns ps root gen := ⟨_, rfl⟩
  rw [← hr]
  unfold rightW at hr
  rw [← hp, ← hn'] at hr
  obtain ⟨rA, hA⟩ : ∃ x, x = rightA bs ns := ⟨_, rfl⟩
  obtain ⟨rH, hH⟩ : ∃ x, x = ps.all fun s => decide (s.size ≤ 4096) := ⟨_, rfl⟩
  obtain ⟨rB, hBB⟩ : ∃ x, x = (decide (10 ≤ root) && decide (root < (n' : Int))) := ⟨_, rfl⟩
  rw [← hA] at hr cA
  rw [← hH, ← hBB] at hr
  obtain ⟨x0, x1, x2, x3, x4⟩ := id (hW ▸ BW)
  have cH : ∀ V, Below w.heap.size w V → Calls Try.prog 25 #[.slice b p f] V fun e w' => e = .returned (.bool rH) ∧ Below V.heap.size V w' := fun V hV => by rw [hH]; exact cH0 V hV
  have cB : ∀ V, Calls Try.prog 26 #[.agg #[.slice a n c, .slice a' n' c', .slice b p f, .int .i64 root, .int .i64 gen], .int .i64 root] V fun e w' => e = .returned (.bool rB) ∧ Below V.heap.size V w' := fun V => by rw [hBB]; exact cB0 V
  clear hn hn' hp hB hB' hP cH0 cB0 hA hH hBB
  cases rA with
  | false =>
    have hrf : Hid (r = false) := by show _ = _; rw [hr]; simp
    clear hr
    go_enter Try.func12, Try.ntmps12
    go_wp2_with (first
      | (go_at_call 24; rw [← hW]; refine cA.mono ?_; rintro y w1 ⟨rfl, hb⟩; replace HB := Below.tr HB hb; replace BW := BW.below hb; clear x0 x1 x2 x3 x4; obtain ⟨x0, x1, x2, x3, x4⟩ := id BW; clear hb)
      | (go_at_call 25; refine (cH _ HB).mono ?_; rintro y w2 ⟨rfl, hb⟩; replace HB := Below.tr HB hb; replace BW := BW.below hb; clear x0 x1 x2 x3 x4; obtain ⟨x0, x1, x2, x3, x4⟩ := id BW; clear hb)
      | (go_at_call 26; refine (cB _).mono ?_; rintro y w3 ⟨rfl, hb⟩; replace HB := Below.tr HB hb; replace BW := BW.below hb; clear x0 x1 x2 x3 x4; obtain ⟨x0, x1, x2, x3, x4⟩ := id BW; clear hb))
    go_ret
    exact ⟨by rw [hrf.out]; rfl, HB⟩
  | true =>
    by_cases h1 : p = n'
    · have h1' : ((p : Int) == n') = true := by simp [h1]
      replace hr : r = (decide (1 ≤ gen) && decide (gen ≤ 1099511627776) && rH && (decide (root = 0) || rB)) := by rw [hr, decide_eq_true h1]; simp
      clear h1
      cases rH with
      | false =>
        have hrf : Hid (r = false) := by show _ = _; rw [hr]; simp
        clear hr
        go_enter Try.func12, Try.ntmps12
        go_wp2_with (first
          | (go_at_call 24; rw [← hW]; refine cA.mono ?_; rintro y w1 ⟨rfl, hb⟩; replace HB := Below.tr HB hb; replace BW := BW.below hb; clear x0 x1 x2 x3 x4; obtain ⟨x0, x1, x2, x3, x4⟩ := id BW; clear hb)
          | (go_at_call 25; refine (cH _ HB).mono ?_; rintro y w2 ⟨rfl, hb⟩; replace HB := Below.tr HB hb; replace BW := BW.below hb; clear x0 x1 x2 x3 x4; obtain ⟨x0, x1, x2, x3, x4⟩ := id BW; clear hb)
          | (go_at_call 26; refine (cB _).mono ?_; rintro y w3 ⟨rfl, hb⟩; replace HB := Below.tr HB hb; replace BW := BW.below hb; clear x0 x1 x2 x3 x4; obtain ⟨x0, x1, x2, x3, x4⟩ := id BW; clear hb))
        go_ret
        exact ⟨by rw [hrf.out]; rfl, HB⟩
      | true =>
        by_cases h2 : root = 0
        · have h2' : (root == 0) = true := by simp [h2]
          replace hr : r = (decide (1 ≤ gen) && decide (gen ≤ 1099511627776)) := by rw [hr, decide_eq_true h2]; simp
          clear h2
          by_cases h3 : 1 ≤ gen
          · have hrf : Hid (r = decide (gen ≤ 1099511627776)) := by show _ = _; rw [hr, decide_eq_true h3]; rfl
            clear hr
            go_enter Try.func12, Try.ntmps12
            go_wp2_with (first
              | (go_at_call 24; rw [← hW]; refine cA.mono ?_; rintro y w1 ⟨rfl, hb⟩; replace HB := Below.tr HB hb; replace BW := BW.below hb; clear x0 x1 x2 x3 x4; obtain ⟨x0, x1, x2, x3, x4⟩ := id BW; clear hb)
              | (go_at_call 25; refine (cH _ HB).mono ?_; rintro y w2 ⟨rfl, hb⟩; replace HB := Below.tr HB hb; replace BW := BW.below hb; clear x0 x1 x2 x3 x4; obtain ⟨x0, x1, x2, x3, x4⟩ := id BW; clear hb)
              | (go_at_call 26; refine (cB _).mono ?_; rintro y w3 ⟨rfl, hb⟩; replace HB := Below.tr HB hb; replace BW := BW.below hb; clear x0 x1 x2 x3 x4; obtain ⟨x0, x1, x2, x3, x4⟩ := id BW; clear hb))
            go_ret
            exact ⟨by rw [hrf.out]; rfl, HB⟩
          · have hrf : Hid (r = false) := by show _ = _; rw [hr, decide_eq_false h3]; rfl
            clear hr
            go_enter Try.func12, Try.ntmps12
            go_wp2_with (first
              | (go_at_call 24; rw [← hW]; refine cA.mono ?_; rintro y w1 ⟨rfl, hb⟩; replace HB := Below.tr HB hb; replace BW := BW.below hb; clear x0 x1 x2 x3 x4; obtain ⟨x0, x1, x2, x3, x4⟩ := id BW; clear hb)
              | (go_at_call 25; refine (cH _ HB).mono ?_; rintro y w2 ⟨rfl, hb⟩; replace HB := Below.tr HB hb; replace BW := BW.below hb; clear x0 x1 x2 x3 x4; obtain ⟨x0, x1, x2, x3, x4⟩ := id BW; clear hb)
              | (go_at_call 26; refine (cB _).mono ?_; rintro y w3 ⟨rfl, hb⟩; replace HB := Below.tr HB hb; replace BW := BW.below hb; clear x0 x1 x2 x3 x4; obtain ⟨x0, x1, x2, x3, x4⟩ := id BW; clear hb))
            go_ret
            exact ⟨by rw [hrf.out]; rfl, HB⟩
        · have h2' : (root == 0) = false := by simp [h2]
          replace hr : r = (decide (1 ≤ gen) && decide (gen ≤ 1099511627776) && rB) := by rw [hr, decide_eq_false h2]; simp
          cases rB with
          | false =>
            have hrf : Hid (r = false) := by show _ = _; rw [hr]; simp
            clear hr
            go_enter Try.func12, Try.ntmps12
            go_wp2_with (first
              | (go_at_call 24; rw [← hW]; refine cA.mono ?_; rintro y w1 ⟨rfl, hb⟩; replace HB := Below.tr HB hb; replace BW := BW.below hb; clear x0 x1 x2 x3 x4; obtain ⟨x0, x1, x2, x3, x4⟩ := id BW; clear hb)
              | (go_at_call 25; refine (cH _ HB).mono ?_; rintro y w2 ⟨rfl, hb⟩; replace HB := Below.tr HB hb; replace BW := BW.below hb; clear x0 x1 x2 x3 x4; obtain ⟨x0, x1, x2, x3, x4⟩ := id BW; clear hb)
              | (go_at_call 26; refine (cB _).mono ?_; rintro y w3 ⟨rfl, hb⟩; replace HB := Below.tr HB hb; replace BW := BW.below hb; clear x0 x1 x2 x3 x4; obtain ⟨x0, x1, x2, x3, x4⟩ := id BW; clear hb))
            go_ret
            exact ⟨by rw [hrf.out]; rfl, HB⟩
          | true =>
            by_cases h3 : 1 ≤ gen
            · have hrf : Hid (r = decide (gen ≤ 1099511627776)) := by show _ = _; rw [hr, decide_eq_true h3]; simp
              clear hr
              go_enter Try.func12, Try.ntmps12
              go_wp2_with (first
                | (go_at_call 24; rw [← hW]; refine cA.mono ?_; rintro y w1 ⟨rfl, hb⟩; replace HB := Below.tr HB hb; replace BW := BW.below hb; clear x0 x1 x2 x3 x4; obtain ⟨x0, x1, x2, x3, x4⟩ := id BW; clear hb)
                | (go_at_call 25; refine (cH _ HB).mono ?_; rintro y w2 ⟨rfl, hb⟩; replace HB := Below.tr HB hb; replace BW := BW.below hb; clear x0 x1 x2 x3 x4; obtain ⟨x0, x1, x2, x3, x4⟩ := id BW; clear hb)
                | (go_at_call 26; refine (cB _).mono ?_; rintro y w3 ⟨rfl, hb⟩; replace HB := Below.tr HB hb; replace BW := BW.below hb; clear x0 x1 x2 x3 x4; obtain ⟨x0, x1, x2, x3, x4⟩ := id BW; clear hb))
              go_ret
              exact ⟨by rw [hrf.out]; rfl, HB⟩
            · have hrf : Hid (r = false) := by show _ = _; rw [hr, decide_eq_false h3]; rfl
              clear hr
              go_enter Try.func12, Try.ntmps12
              go_wp2_with (first
                | (go_at_call 24; rw [← hW]; refine cA.mono ?_; rintro y w1 ⟨rfl, hb⟩; replace HB := Below.tr HB hb; replace BW := BW.below hb; clear x0 x1 x2 x3 x4; obtain ⟨x0, x1, x2, x3, x4⟩ := id BW; clear hb)
                | (go_at_call 25; refine (cH _ HB).mono ?_; rintro y w2 ⟨rfl, hb⟩; replace HB := Below.tr HB hb; replace BW := BW.below hb; clear x0 x1 x2 x3 x4; obtain ⟨x0, x1, x2, x3, x4⟩ := id BW; clear hb)
                | (go_at_call 26; refine (cB _).mono ?_; rintro y w3 ⟨rfl, hb⟩; replace HB := Below.tr HB hb; replace BW := BW.below hb; clear x0 x1 x2 x3 x4; obtain ⟨x0, x1, x2, x3, x4⟩ := id BW; clear hb))
              go_ret
              exact ⟨by rw [hrf.out]; rfl, HB⟩
    · have h1' : ((p : Int) == n') = false := by simp; omega
      have hrf : Hid (r = false) := by show _ = _; rw [hr, decide_eq_false h1]; simp
      clear hr h1
      go_enter Try.func12, Try.ntmps12
      go_wp2_with (first
        | (go_at_call 24; rw [← hW]; refine cA.mono ?_; rintro y w1 ⟨rfl, hb⟩; replace HB := Below.tr HB hb; replace BW := BW.below hb; clear x0 x1 x2 x3 x4; obtain ⟨x0, x1, x2, x3, x4⟩ := id BW; clear hb)
        | (go_at_call 25; refine (cH _ HB).mono ?_; rintro y w2 ⟨rfl, hb⟩; replace HB := Below.tr HB hb; replace BW := BW.below hb; clear x0 x1 x2 x3 x4; obtain ⟨x0, x1, x2, x3, x4⟩ := id BW; clear hb)
        | (go_at_call 26; refine (cB _).mono ?_; rintro y w3 ⟨rfl, hb⟩; replace HB := Below.tr HB hb; replace BW := BW.below hb; clear x0 x1 x2 x3 x4; obtain ⟨x0, x1, x2, x3, x4⟩ := id BW; clear hb))
      go_ret
      exact ⟨by rw [hrf.out]; rfl, HB⟩

end Go.Proofs.Ytmldemgciidpbaa

namespace Go.Proofs.Ytmldemgciidpbaa
open Go.RowKit Plain
set_option linter.unusedVariables false

set_option maxRecDepth 20000 in
theorem small_any (a a' b : Option Addr) (n c n' c' p f : Nat) (root gen : Int) (w : World) (hn : n' ≤ 9223372036854775807) (hp : p ≤ 9223372036854775807) :
    Calls Try.prog 8 #[.agg #[.slice a n c, .slice a' n' c', .slice b p f, .int .i64 root, .int .i64 gen]] w fun e w' => e = .returned (.bool (decide (n' ≤ 300) && decide (p ≤ 300))) ∧ Below w.heap.size w w' := by
  have HB : Below w.heap.size w (w.alloc (.cells #[.slice a n c, .slice a' n' c', .slice b p f, .int .i64 root, .int .i64 gen] 27)) := (Below.refl _ _).alloc (Nat.le_refl _) _
  obtain ⟨r, hr⟩ : ∃ r, r = (decide (n' ≤ 300) && decide (p ≤ 300)) := ⟨_, rfl⟩
  rw [← hr]
  by_cases h1 : n' ≤ 300
  · have h1' : (n' : Int) ≤ 300 := by omega
    have hr' : Hid (r = decide ((p : Int) ≤ 300)) := by
      show _ = _
      rw [hr, decide_eq_true h1, Bool.true_and]
      exact decide_eq_decide.2 (by omega)
    clear hr h1
    go_enter Try.func8, Try.ntmps8
    go_wp2
    go_ret
    exact ⟨by rw [hr'.out]; rfl, HB⟩
  · have h1' : ¬ (n' : Int) ≤ 300 := by omega
    have hr' : r = false := by rw [hr, decide_eq_false h1]; rfl
    clear hr h1
    go_enter Try.func8, Try.ntmps8
    go_wp2
    go_ret
    exact ⟨rfl, HB⟩

end Go.Proofs.Ytmldemgciidpbaa

namespace Go.Proofs.Ytmldemgciidpbaa
open Go.RowKit Plain
set_option linter.unusedVariables false

theorem sameS_at {a a' : Option Addr} {c c' n n' : Nat} {l m : List ByteArray} {w : World} (hn : n = l.length) (hn' : n' = m.length) (hB : IsS w a c l) (hB' : IsS w a' c' m) :
    Calls Try.prog 27 #[.slice a n c, .slice a' n' c'] w fun e w' => e = .returned (.bool (decide (l = m))) ∧ Below w.heap.size w w' := by
  subst hn hn'; exact sameS_any a a' c c' l m w hB hB'

def likeN (l : Bool) (ks vs : List ByteArray) (cs : List Int) (l' : Bool) (ks' vs' : List ByteArray) (cs' : List Int) : Bool :=
  decide (l = l') && decide (ks = ks') && decide (vs = vs') && decide (cs = cs')

theorem likeN_iff {l : Bool} {ks vs : List ByteArray} {cs : List Int} {l' : Bool} {ks' vs' : List ByteArray} {cs' : List Int} : likeN l ks vs cs l' ks' vs' cs' = true ↔ l = l' ∧ ks = ks' ∧ vs = vs' ∧ cs = cs' := by
  unfold likeN
  simp only [Bool.and_eq_true, decide_eq_true_eq, and_assoc]

theorem likeN_not {l : Bool} {ks vs : List ByteArray} {cs : List Int} {l' : Bool} {ks' vs' : List ByteArray} {cs' : List Int} (h : ¬ (l = l' ∧ ks = ks' ∧ vs = vs' ∧ cs = cs')) : likeN l ks vs cs l' ks' vs' cs' = false := by
  rw [Bool.eq_false_iff]; exact fun hh => h (likeN_iff.1 hh)

set_option maxHeartbeats 2000000 in
/-- LIKE, of any two nodes. -/
theorem refLike_any (l : Bool) (a a' a'' : Option Addr) (c c' c'' n n' n'' : Nat) (ks vs : List ByteArray) (cs : List Int)
    (l2 : Bool) (d d' d'' : Option Addr) (f f' f'' m m' m'' : Nat) (ks2 vs2 : List ByteArray) (cs2 : List Int) (w : World)
    (hn : n = ks.length) (hn' : n' = vs.length) (hn'' : n'' = cs.length) (hK : IsS w a c ks) (hV : IsS w a' c' vs) (hC : IsI w a'' c'' cs)
    (hm : m = ks2.length) (hm' : m' = vs2.length) (hm'' : m'' = cs2.length) (hK2 : IsS w d f ks2) (hV2 : IsS w d' f' vs2) (hC2 : IsI w d'' f'' cs2) :
    Calls Try.prog 13 #[.agg #[.bool l, .slice a n c, .slice a' n' c', .slice a'' n'' c''], .agg #[.bool l2, .slice d m f, .slice d' m' f', .slice d'' m'' f'']] w fun e w' => e = .returned (.bool (likeN l ks vs cs l2 ks2 vs2 cs2)) ∧ Below w.heap.size w w' := by
  obtain ⟨W, hW⟩ : ∃ W, W = (w.alloc (.cells #[.bool l, .slice a n c, .slice a' n' c', .slice a'' n'' c''] 32)).alloc (.cells #[.bool l2, .slice d m f, .slice d' m' f', .slice d'' m'' f''] 32) := ⟨_, rfl⟩
  have hB0 : Below w.heap.size w W := by rw [hW]; exact ((Below.refl _ _).alloc (Nat.le_refl _) _).alloc (by simp) _
  have hX : Box4 W w.heap.size (.bool l) (.slice a n c) (.slice a' n' c') (.slice a'' n'' c'') := by rw [hW]; exact (box4_new w _ _ _ _ _ rfl).alloc _
  have hY : Box4 W (w.heap.size + 1) (.bool l2) (.slice d m f) (.slice d' m' f') (.slice d'' m'' f'') := by rw [hW]; exact box4_new _ _ _ _ _ _ (by simp)
  have cK : ∀ W', Below w.heap.size w W' → Calls Try.prog 27 #[.slice a n c, .slice d m f] W' fun e w' => e = .returned (.bool (decide (ks = ks2))) ∧ Below W'.heap.size W' w' := fun W' h => sameS_at hn hm (hK.below h) (hK2.below h)
  have cV : ∀ W', Below w.heap.size w W' → Calls Try.prog 27 #[.slice a' n' c', .slice d' m' f'] W' fun e w' => e = .returned (.bool (decide (vs = vs2))) ∧ Below W'.heap.size W' w' := fun W' h => sameS_at hn' hm' (hV.below h) (hV2.below h)
  have HC : Hid (IsI w a'' c'' cs) := hC
  have HC2 : Hid (IsI w d'' f'' cs2) := hC2
  have EC : Hid (n'' = cs.length) := hn''
  have EC2 : Hid (m'' = cs2.length) := hm''
  have hz : n'' ≤ 9223372036854775807 := by rw [hn'']; exact hC.size
  obtain ⟨r, hr⟩ : ∃ r, r = likeN l ks vs cs l2 ks2 vs2 cs2 := ⟨_, rfl⟩
  have HF : Hid (¬ (l = l2 ∧ ks = ks2 ∧ vs = vs2 ∧ cs = cs2) → r = false) := fun h => by rw [hr]; exact likeN_not h
  have HT : Hid ((l = l2 ∧ ks = ks2 ∧ vs = vs2 ∧ cs = cs2) → r = true) := fun h => by rw [hr]; exact likeN_iff.2 h
  rw [← hr]
  clear hn hn' hn'' hm hm' hm'' hK hV hC hK2 hV2 hC2 hr
  obtain ⟨⟨q0, q1, q2, q3⟩, -⟩ := hX
  obtain ⟨⟨s0, s1, s2, s3⟩, -⟩ := hY
  subst hW
  by_cases e0 : l = l2
  · subst e0
    by_cases e1 : ks = ks2
    · rw [decide_eq_true e1] at cK
      by_cases e2 : vs = vs2
      · rw [decide_eq_true e2] at cV
        by_cases e3 : n'' = m''
        · subst e3
          have HT' : Hid (cs = cs2 → r = true) := fun h => HT.out ⟨rfl, e1, e2, h⟩
          clear HT e1 e2
          have tok1 : True := trivial
          go_enter Try.func13, Try.ntmps13
          go_wp2_with (first
            | (go_at_call 27; have _t := tok1; refine (cK _ hB0).mono ?_; rintro e w1 ⟨rfl, hb⟩; replace q0 := cell_below hb q0; replace q1 := cell_below hb q1; replace q2 := cell_below hb q2; replace q3 := cell_below hb q3; replace s0 := cell_below hb s0; replace s1 := cell_below hb s1; replace s2 := cell_below hb s2; replace s3 := cell_below hb s3; replace hB0 := Below.tr hB0 hb; clear hb tok1)
            | (go_at_call 27; refine (cV _ hB0).mono ?_; rintro e w2 ⟨rfl, hb⟩; replace q0 := cell_below hb q0; replace q1 := cell_below hb q1; replace q2 := cell_below hb q2; replace q3 := cell_below hb q3; replace s0 := cell_below hb s0; replace s1 := cell_below hb s1; replace s2 := cell_below hb s2; replace s3 := cell_below hb s3; replace hB0 := Below.tr hB0 hb; clear hb))
          go_loopw [39] (fun v wr => ∃ j : Nat, j ≤ n'' ∧ v = .int .i64 j ∧ (∀ i, i < j → cs[i]? = cs2[i]?) ∧ Below w2.heap.size w2 wr) (fun v _ => n'' - (intOf v).toNat)
          case atStart => exact ⟨0, by omega, rfl, fun i hi => by omega, Below.refl _ _⟩
          case round =>
            obtain ⟨j, hj, rfl, hs, hbel⟩ := hrel
            have HS : Hid (∀ i, i < j → cs[i]? = cs2[i]?) := hs
            clear hs
            replace q3 := cell_below hbel q3
            replace s3 := cell_below hbel s3
            replace hB0 := Below.tr hB0 hbel
            by_cases hlt : j < n''
            · have hlt' : (j : Int) < n'' := by omega
              obtain ⟨x, hx⟩ : ∃ q, Hid (cs[j]? = some q) := ⟨_, List.getElem?_eq_getElem (by rw [← EC.out]; exact hlt)⟩
              obtain ⟨y, hy⟩ : ∃ q, Hid (cs2[j]? = some q) := ⟨_, List.getElem?_eq_getElem (by rw [← EC2.out]; exact hlt)⟩
              obtain ⟨b, o, rfl, hbl, hc0⟩ := HC.out.2.2 j x hx.out
              obtain ⟨b', o', rfl, hbl', hc0'⟩ := HC2.out.2.2 j y hy.out
              have hc := cell_below hB0 hc0
              have hc' := cell_below hB0 hc0'
              clear q0 q1 q2 s0 s1 s2
              by_cases e : x = y
              · have e1 : (x != y) = false := by rw [e]; simp
                go_wp2
                go_region
                go_wp2
                go_roundw
                case rel =>
                  refine ⟨j + 1, by omega, by go_num, fun i hi => ?_, hbel.drew⟩
                  by_cases ei : i = j
                  · rw [ei, hx.out, hy.out, e]
                  · exact HS.out i (by omega)
                case measure => simp [intOf]; omega
              · have e1 : (x != y) = true := by simp [e]
                have hne : Hid (r = false) := HF.out fun h => by
                  have := hx.out
                  rw [h.2.2.2, hy.out] at this
                  exact e (Option.some.inj this).symm
                go_wp2
                go_region
                go_wp2
                go_ret
                exact ⟨ret_bool hne.out.symm, hB0.drew⟩
            · obtain rfl : j = n'' := by omega
              have heq : Hid (r = true) := HT'.out (by
                apply List.ext_getElem?
                intro i
                by_cases hi : i < j
                · exact HS.out i hi
                · rw [List.getElem?_eq_none (by rw [← EC.out]; omega), List.getElem?_eq_none (by rw [← EC2.out]; omega)])
              go_wp2
              go_ret
              exact ⟨ret_bool heq.out.symm, hB0⟩
        · have e3' : ((n'' : Int) != m'') = true := by simp; omega
          have hne : Hid (r = false) := HF.out fun h => e3 (by rw [EC.out, EC2.out, h.2.2.2])
          clear HF HT e1 e2 e3
          have tok1 : True := trivial
          go_enter Try.func13, Try.ntmps13
          go_wp2_with (first
            | (go_at_call 27; have _t := tok1; refine (cK _ hB0).mono ?_; rintro e w1 ⟨rfl, hb⟩; replace q0 := cell_below hb q0; replace q1 := cell_below hb q1; replace q2 := cell_below hb q2; replace q3 := cell_below hb q3; replace s0 := cell_below hb s0; replace s1 := cell_below hb s1; replace s2 := cell_below hb s2; replace s3 := cell_below hb s3; replace hB0 := Below.tr hB0 hb; clear hb tok1)
            | (go_at_call 27; refine (cV _ hB0).mono ?_; rintro e w2 ⟨rfl, hb⟩; replace q0 := cell_below hb q0; replace q1 := cell_below hb q1; replace q2 := cell_below hb q2; replace q3 := cell_below hb q3; replace s0 := cell_below hb s0; replace s1 := cell_below hb s1; replace s2 := cell_below hb s2; replace s3 := cell_below hb s3; replace hB0 := Below.tr hB0 hb; clear hb))
          go_ret
          exact ⟨ret_bool hne.out.symm, hB0⟩
      · rw [decide_eq_false e2] at cV
        have hne : Hid (r = false) := HF.out fun h => e2 h.2.2.1
        clear HF HT e1 e2
        have tok1 : True := trivial
        go_enter Try.func13, Try.ntmps13
        go_wp2_with (first
          | (go_at_call 27; have _t := tok1; refine (cK _ hB0).mono ?_; rintro e w1 ⟨rfl, hb⟩; replace q0 := cell_below hb q0; replace q1 := cell_below hb q1; replace q2 := cell_below hb q2; replace q3 := cell_below hb q3; replace s0 := cell_below hb s0; replace s1 := cell_below hb s1; replace s2 := cell_below hb s2; replace s3 := cell_below hb s3; replace hB0 := Below.tr hB0 hb; clear hb tok1)
          | (go_at_call 27; refine (cV _ hB0).mono ?_; rintro e w2 ⟨rfl, hb⟩; replace q0 := cell_below hb q0; replace q1 := cell_below hb q1; replace q2 := cell_below hb q2; replace q3 := cell_below hb q3; replace s0 := cell_below hb s0; replace s1 := cell_below hb s1; replace s2 := cell_below hb s2; replace s3 := cell_below hb s3; replace hB0 := Below.tr hB0 hb; clear hb))
        go_ret
        exact ⟨ret_bool hne.out.symm, hB0⟩
    · rw [decide_eq_false e1] at cK
      have hne : Hid (r = false) := HF.out fun h => e1 h.2.1
      clear HF HT e1
      have tok1 : True := trivial
      go_enter Try.func13, Try.ntmps13
      go_wp2_with (go_at_call 27; have _t := tok1; refine (cK _ hB0).mono ?_; rintro e w1 ⟨rfl, hb⟩; replace q0 := cell_below hb q0; replace q1 := cell_below hb q1; replace q2 := cell_below hb q2; replace q3 := cell_below hb q3; replace s0 := cell_below hb s0; replace s1 := cell_below hb s1; replace s2 := cell_below hb s2; replace s3 := cell_below hb s3; replace hB0 := Below.tr hB0 hb; clear hb tok1)
      go_ret
      exact ⟨ret_bool hne.out.symm, hB0⟩
  · have e0' : (l != l2) = true := by simp [e0]
    have hne : Hid (r = false) := HF.out fun h => e0 h.1
    clear HF HT
    go_enter Try.func13, Try.ntmps13
    go_wp2
    go_ret
    exact ⟨ret_bool hne.out.symm, hB0⟩

end Go.Proofs.Ytmldemgciidpbaa

namespace Go.Proofs.Ytmldemgciidpbaa
open Go.RowKit Plain
set_option linter.unusedVariables false

def NodeIn (V : World) (h : Nat) (l : Bool) (a : Option Addr) (m c : Nat) (a' : Option Addr) (m' c' : Nat) (a'' : Option Addr) (m'' c'' : Nat) (ks vs : List ByteArray) (cs : List Int) : Prop :=
  Box4 V h (.bool l) (.slice a m c) (.slice a' m' c') (.slice a'' m'' c'') ∧ m = ks.length ∧ m' = vs.length ∧ m'' = cs.length ∧ IsS V a c ks ∧ IsS V a' c' vs ∧ IsI V a'' c'' cs

theorem NodeIn.below {V : World} {h : Nat} {l : Bool} {a : Option Addr} {m c : Nat} {a' : Option Addr} {m' c' : Nat} {a'' : Option Addr} {m'' c'' : Nat} {ks vs : List ByteArray} {cs : List Int} (n : NodeIn V h l a m c a' m' c' a'' m'' c'' ks vs cs) {V' : World} (hb : Below V.heap.size V V') : NodeIn V' h l a m c a' m' c' a'' m'' c'' ks vs cs :=
  ⟨n.1.below hb, n.2.1, n.2.2.1, n.2.2.2.1, n.2.2.2.2.1.below hb, n.2.2.2.2.2.1.below hb, n.2.2.2.2.2.2.below hb⟩

theorem NodeIn.box {V : World} {h : Nat} {l : Bool} {a : Option Addr} {m c : Nat} {a' : Option Addr} {m' c' : Nat} {a'' : Option Addr} {m'' c'' : Nat} {ks vs : List ByteArray} {cs : List Int} (n : NodeIn V h l a m c a' m' c' a'' m'' c'' ks vs cs) : Box4 V h (.bool l) (.slice a m c) (.slice a' m' c') (.slice a'' m'' c'') := n.1

theorem nodeIn_new (V : World) (h : Nat) (l : Bool) {a : Option Addr} {m c : Nat} {a' : Option Addr} {m' c' : Nat} {a'' : Option Addr} {m'' c'' : Nat} {ks vs : List ByteArray} {cs : List Int} (hh : h = V.heap.size) (e1 : m = ks.length) (e2 : m' = vs.length) (e3 : m'' = cs.length) (i1 : IsS V a c ks) (i2 : IsS V a' c' vs) (i3 : IsI V a'' c'' cs) : NodeIn (V.alloc (.cells #[.bool l, .slice a m c, .slice a' m' c', .slice a'' m'' c''] 32)) h l a m c a' m' c' a'' m'' c'' ks vs cs := by
  subst hh
  have hA := (Below.refl V.heap.size V).alloc (Nat.le_refl _) (.cells #[.bool l, .slice a m c, .slice a' m' c', .slice a'' m'' c''] 32)
  exact ⟨box4_new _ _ _ _ _ _ rfl, e1, e2, e3, i1.below hA, i2.below hA, i3.below hA⟩

theorem like_in {V : World} {h : Nat} {l : Bool} {a : Option Addr} {m c : Nat} {a' : Option Addr} {m' c' : Nat} {a'' : Option Addr} {m'' c'' : Nat} {ks vs : List ByteArray} {cs : List Int} {h' : Nat} {b : Option Addr} {p f : Nat} {b' : Option Addr} {p' f' : Nat} {b'' : Option Addr} {p'' f'' : Nat} (n : NodeIn V h l a m c a' m' c' a'' m'' c'' ks vs cs) (k : NodeIn V h' l b p f b' p' f' b'' p'' f'' ks vs cs) :
    Calls Try.prog 13 #[.agg #[.bool l, .slice a m c, .slice a' m' c', .slice a'' m'' c''], .agg #[.bool l, .slice b p f, .slice b' p' f', .slice b'' p'' f'']] V fun e w' => e = .returned (.bool true) ∧ Below V.heap.size V w' := by
  have := refLike_any l a a' a'' c c' c'' m m' m'' ks vs cs l b b' b'' f f' f'' p p' p'' ks vs cs V n.2.1 n.2.2.1 n.2.2.2.1 n.2.2.2.2.1 n.2.2.2.2.2.1 n.2.2.2.2.2.2 k.2.1 k.2.2.1 k.2.2.2.1 k.2.2.2.2.1 k.2.2.2.2.2.1 k.2.2.2.2.2.2
  rw [likeN_iff.2 ⟨rfl, rfl, rfl, rfl⟩] at this
  exact this

theorem like_none {V : World} {h : Nat} {a : Option Addr} {m c : Nat} {a' : Option Addr} {m' c' : Nat} {a'' : Option Addr} {m'' c'' : Nat} (n : NodeIn V h false a m c a' m' c' a'' m'' c'' [] [] []) :
    Calls Try.prog 13 #[.agg #[.bool false, .slice a m c, .slice a' m' c', .slice a'' m'' c''], .agg #[.bool false, .slice none 0 0, .slice none 0 0, .slice none 0 0]] V fun e w' => e = .returned (.bool true) ∧ Below V.heap.size V w' := by
  have := refLike_any false a a' a'' c c' c'' m m' m'' [] [] [] false none none none 0 0 0 0 0 0 [] [] [] V n.2.1 n.2.2.1 n.2.2.2.1 n.2.2.2.2.1 n.2.2.2.2.2.1 n.2.2.2.2.2.2 rfl rfl rfl (isS_nil _) (isS_nil _) (isI_nil _)
  rw [likeN_iff.2 ⟨rfl, rfl, rfl, rfl⟩] at this
  exact this

end Go.Proofs.Ytmldemgciidpbaa

namespace Go.Proofs.Ytmldemgciidpbaa
open Go.RowKit Plain
set_option linter.unusedVariables false

/-- A wood in a box, with all that is known of it. -/
def WoodIn (V : World) (h : Nat) (a : Option Addr) (n c : Nat) (a' : Option Addr) (n' c' : Nat) (b : Option Addr) (p f : Nat) (bs ns : List Bool) (ps : List ByteArray) (root gen : Int) : Prop :=
  WoodBox V h (.slice a n c) (.slice a' n' c') (.slice b p f) (.int .i64 root) (.int .i64 gen) ∧ n = bs.length ∧ n' = ns.length ∧ p = ps.length ∧ IsB V a c bs ∧ IsB V a' c' ns ∧ IsS V b f ps

theorem WoodIn.below {V V' : World} {h : Nat} {a : Option Addr} {n c : Nat} {a' : Option Addr} {n' c' : Nat} {b : Option Addr} {p f : Nat} {bs ns : List Bool} {ps : List ByteArray} {root gen : Int} (x : WoodIn V h a n c a' n' c' b p f bs ns ps root gen) (hb : Below V.heap.size V V') : WoodIn V' h a n c a' n' c' b p f bs ns ps root gen :=
  ⟨x.1.below hb, x.2.1, x.2.2.1, x.2.2.2.1, x.2.2.2.2.1.below hb, x.2.2.2.2.2.1.below hb, x.2.2.2.2.2.2.below hb⟩

/-- How Load answers. -/
def LoadC (V : World) (x : Ending) (V' : World) (right : Bool) (o : Option NodeS) : Prop :=
  if right = true then (match o with
    | none => Answers V x V' false [] [] [] 81
    | some nd => Answers V x V' nd.1 nd.2.1 nd.2.2.1 nd.2.2.2 0) else Answers V x V' false [] [] [] 1

set_option maxRecDepth 20000 in
set_option maxHeartbeats 4000000 in
theorem lookRights_of (a : Option Addr) (c : Nat) (bs : List Bool) (a' : Option Addr) (c' : Nat) (ns : List Bool) (b : Option Addr) (f : Nat) (ps : List ByteArray) (root gen block : Int) (rt : Bool) (w : World) (hB : IsB w a c bs) (hB' : IsB w a' c' ns) (hP : IsS w b f ps)
    (cA : ∀ V, Calls Try.prog 9 #[] V fun e w' => e = .returned (.bool true) ∧ Below V.heap.size V w')
    (cQ' : ∀ V {h n n' p : Nat}, WoodIn V h a n c a' n' c' b p f bs ns ps root gen → Calls Try.prog 12 #[.agg #[.slice a n c, .slice a' n' c', .slice b p f, .int .i64 root, .int .i64 gen]] V fun e w' => e = .returned (.bool (rightW bs ns ps root gen)) ∧ Below V.heap.size V w')
    (cL' : ∀ V {h n n' p : Nat}, WoodIn V h a n c a' n' c' b p f bs ns ps root gen → Calls Try.prog 10 #[.agg #[.slice a n c, .slice a' n' c', .slice b p f, .int .i64 root, .int .i64 gen], .int .i64 block, .bool rt] V fun x w' => LoadC V x w' (rightW bs ns ps root gen) (holdsS ns ps gen block rt)) :
    Calls Try.prog 3 #[.agg #[.slice a bs.length c, .slice a' ns.length c', .slice b ps.length f, .int .i64 root, .int .i64 gen], .int .i64 block, .bool rt] w fun e w' => e = .returned (.bool true) ∧ Below w.heap.size w w' := by
  obtain ⟨n, hn⟩ : ∃ n, n = bs.length := ⟨_, rfl⟩
  obtain ⟨n', hn'⟩ : ∃ n, n = ns.length := ⟨_, rfl⟩
  obtain ⟨p, hp⟩ : ∃ n, n = ps.length := ⟨_, rfl⟩
  rw [← hn, ← hn', ← hp]
  obtain ⟨W, hW⟩ : ∃ W, W = w.alloc (.cells #[.slice a n c, .slice a' n' c', .slice b p f, .int .i64 root, .int .i64 gen] 27) := ⟨_, rfl⟩
  have HB : Below w.heap.size w W := by rw [hW]; exact (Below.refl _ _).alloc (Nat.le_refl _) _
  have WI : WoodIn W w.heap.size a n c a' n' c' b p f bs ns ps root gen := ⟨by rw [hW]; exact woodBox_new _ _ _ _ _ _ _ rfl, hn, hn', hp, hB.below HB, hB'.below HB, hP.below HB⟩
  have cS0 : ∀ V, Calls Try.prog 8 #[.agg #[.slice a n c, .slice a' n' c', .slice b p f, .int .i64 root, .int .i64 gen]] V fun e w' => e = .returned (.bool (decide (n' ≤ 300) && decide (p ≤ 300))) ∧ Below V.heap.size V w' := fun V => small_any a a' b n c n' c' p f root gen V (by rw [hn']; exact Nat.le_trans hB'.1 hB'.2.1) (by rw [hp]; exact Nat.le_trans hP.1 hP.2.1)
  have cQ : ∀ V {h : Nat}, WoodIn V h a n c a' n' c' b p f bs ns ps root gen → Calls Try.prog 12 #[.agg #[.slice a n c, .slice a' n' c', .slice b p f, .int .i64 root, .int .i64 gen]] V fun e w' => e = .returned (.bool (rightW bs ns ps root gen)) ∧ Below V.heap.size V w' := fun V h x => cQ' V x
  have cL : ∀ V {h : Nat}, WoodIn V h a n c a' n' c' b p f bs ns ps root gen → Calls Try.prog 10 #[.agg #[.slice a n c, .slice a' n' c', .slice b p f, .int .i64 root, .int .i64 gen], .int .i64 block, .bool rt] V fun x w' => LoadC V x w' (rightW bs ns ps root gen) (holdsS ns ps gen block rt) := fun V h x => cL' V x
  have cR : ∀ V {h : Nat}, WoodIn V h a n c a' n' c' b p f bs ns ps root gen → Calls Try.prog 11 #[.agg #[.slice a n c, .slice a' n' c', .slice b p f, .int .i64 root, .int .i64 gen]] V fun e w' => e = .returned (.bool (rightW bs ns ps root gen)) ∧ Below V.heap.size V w' := fun V h x => refRightW_any a a' b n c n' c' p f bs ns ps root gen V x.2.1 x.2.2.1 x.2.2.2.1 x.2.2.2.2.1 x.2.2.2.2.2.1 x.2.2.2.2.2.2
  have cH : ∀ V {h : Nat}, WoodIn V h a n c a' n' c' b p f bs ns ps root gen → Calls Try.prog 14 #[.agg #[.slice a n c, .slice a' n' c', .slice b p f, .int .i64 root, .int .i64 gen], .int .i64 block, .bool rt] V fun x w' => HoldsC V x w' (holdsS ns ps gen block rt) := fun V h x => holds_any a a' b n c n' c' p f ns ps root gen block rt V x.2.2.1 x.2.2.2.1 x.2.2.2.2.2.1 x.2.2.2.2.2.2
  clear cQ' cL' hn hn' hp hB hB' hP
  obtain ⟨x0, x1, x2, x3, x4⟩ := hW ▸ WI.1
  cases hs : (decide (n' ≤ 300) && decide (p ≤ 300)) with
  | false =>
    have cS : ∀ V, Calls Try.prog 8 #[.agg #[.slice a n c, .slice a' n' c', .slice b p f, .int .i64 root, .int .i64 gen]] V fun e w' => e = .returned (.bool false) ∧ Below V.heap.size V w' := fun V => by have := cS0 V; rw [hs] at this; exact this
    clear cS0 hs cQ cL cR cH
    go_enter Try.func3, Try.ntmps3
    go_wp2_with (first
        | (go_at_call 8; rw [← hW]; refine (cS _).mono ?_; rintro y w1 ⟨rfl, hb⟩; replace WI := WI.below hb; replace HB := Below.tr HB hb; clear x0 x1 x2 x3 x4; obtain ⟨x0, x1, x2, x3, x4⟩ := WI.1; clear hb)
        | (go_at_call 9; refine (cA _).mono ?_; rintro y w5 ⟨rfl, hb⟩; replace HB := Below.tr HB hb; clear hb)
        )
    go_ret
    exact ⟨rfl, HB⟩
  | true =>
    have cS : ∀ V, Calls Try.prog 8 #[.agg #[.slice a n c, .slice a' n' c', .slice b p f, .int .i64 root, .int .i64 gen]] V fun e w' => e = .returned (.bool true) ∧ Below V.heap.size V w' := fun V => by have := cS0 V; rw [hs] at this; exact this
    clear cS0 hs
    cases hr : rightW bs ns ps root gen with
    | false =>
      rw [hr] at cQ cL cR
      replace cL : ∀ V {h : Nat}, WoodIn V h a n c a' n' c' b p f bs ns ps root gen → Calls Try.prog 10 #[.agg #[.slice a n c, .slice a' n' c', .slice b p f, .int .i64 root, .int .i64 gen], .int .i64 block, .bool rt] V fun x w' => Answers V x w' false [] [] [] 1 := fun V h x => by have := cL V x; unfold LoadC at this; simpa using this
      clear hr cH
      go_enter Try.func3, Try.ntmps3
      go_wp2_with (first
          | (go_at_call 8; rw [← hW]; refine (cS _).mono ?_; rintro y w1 ⟨rfl, hb⟩; replace WI := WI.below hb; replace HB := Below.tr HB hb; clear x0 x1 x2 x3 x4; obtain ⟨x0, x1, x2, x3, x4⟩ := WI.1; clear hb)
          | (go_at_call 10; refine (cL _ WI).mono ?_; rintro y w2 ⟨k1, a1, d1, k1', a1', d1', k1'', a1'', d1'', rfl, e1, e2, e3, i1, i2, i3, -, -, -, hb⟩; have hA : Below w2.heap.size w2 (w2.alloc (.cells #[.bool false, .slice a1 k1 d1, .slice a1' k1' d1', .slice a1'' k1'' d1''] 32)) := (Below.refl _ _).alloc (Nat.le_refl _) _; have J := nodeIn_new w2 w2.heap.size false rfl e1 e2 e3 i1 i2 i3; replace WI := (WI.below hb).below hA; replace HB := Below.tr (Below.tr HB hb) hA; clear x0 x1 x2 x3 x4; obtain ⟨x0, x1, x2, x3, x4⟩ := WI.1; obtain ⟨⟨j0, j1, j2, j3⟩, -⟩ := J.box; clear hb hA e1 e2 e3 i1 i2 i3)
          | (go_at_call 11; refine (cR _ WI).mono ?_; rintro y w3 ⟨rfl, hb⟩; replace WI := WI.below hb; replace J := J.below hb; replace HB := Below.tr HB hb; clear x0 x1 x2 x3 x4; clear j0 j1 j2 j3; obtain ⟨x0, x1, x2, x3, x4⟩ := WI.1; obtain ⟨⟨j0, j1, j2, j3⟩, -⟩ := J.box; clear hb)
          | (go_at_call 9; refine (cA _).mono ?_; rintro y w5 ⟨rfl, hb⟩; replace WI := WI.below hb; replace J := J.below hb; replace HB := Below.tr HB hb; clear x0 x1 x2 x3 x4; clear j0 j1 j2 j3; obtain ⟨x0, x1, x2, x3, x4⟩ := WI.1; obtain ⟨⟨j0, j1, j2, j3⟩, -⟩ := J.box; clear hb)
          | (go_at_call 12; refine (cQ _ WI).mono ?_; rintro y w6 ⟨rfl, hb⟩; replace J := J.below hb; replace HB := Below.tr HB hb; clear x0 x1 x2 x3 x4; clear j0 j1 j2 j3; obtain ⟨⟨j0, j1, j2, j3⟩, -⟩ := J.box; clear hb)
          | (go_at_call 13; refine (like_none J).mono ?_; rintro y w7 ⟨rfl, hb⟩; replace HB := Below.tr HB hb; clear hb)
          )
      go_ret
      exact ⟨rfl, HB⟩
    | true =>
      rw [hr] at cQ cL cR
      cases ho : holdsS ns ps gen block rt with
      | none =>
        rw [ho] at cL cH
        replace cL : ∀ V {h : Nat}, WoodIn V h a n c a' n' c' b p f bs ns ps root gen → Calls Try.prog 10 #[.agg #[.slice a n c, .slice a' n' c', .slice b p f, .int .i64 root, .int .i64 gen], .int .i64 block, .bool rt] V fun x w' => Answers V x w' false [] [] [] 81 := fun V h x => by have := cL V x; unfold LoadC at this; simpa using this
        replace cH : ∀ V {h : Nat}, WoodIn V h a n c a' n' c' b p f bs ns ps root gen → Calls Try.prog 14 #[.agg #[.slice a n c, .slice a' n' c', .slice b p f, .int .i64 root, .int .i64 gen], .int .i64 block, .bool rt] V fun x w' => x = .returned (.tuple #[.agg #[.bool false, .slice none 0 0, .slice none 0 0, .slice none 0 0], .bool false]) ∧ Below V.heap.size V w' := fun V h x => cH V x
        clear hr ho
        go_enter Try.func3, Try.ntmps3
        go_wp2_with (first
            | (go_at_call 8; rw [← hW]; refine (cS _).mono ?_; rintro y w1 ⟨rfl, hb⟩; replace WI := WI.below hb; replace HB := Below.tr HB hb; clear x0 x1 x2 x3 x4; obtain ⟨x0, x1, x2, x3, x4⟩ := WI.1; clear hb)
            | (go_at_call 10; refine (cL _ WI).mono ?_; rintro y w2 ⟨k1, a1, d1, k1', a1', d1', k1'', a1'', d1'', rfl, e1, e2, e3, i1, i2, i3, -, -, -, hb⟩; have hA : Below w2.heap.size w2 (w2.alloc (.cells #[.bool false, .slice a1 k1 d1, .slice a1' k1' d1', .slice a1'' k1'' d1''] 32)) := (Below.refl _ _).alloc (Nat.le_refl _) _; have J := nodeIn_new w2 w2.heap.size false rfl e1 e2 e3 i1 i2 i3; replace WI := (WI.below hb).below hA; replace HB := Below.tr (Below.tr HB hb) hA; clear x0 x1 x2 x3 x4; obtain ⟨x0, x1, x2, x3, x4⟩ := WI.1; obtain ⟨⟨j0, j1, j2, j3⟩, -⟩ := J.box; clear hb hA e1 e2 e3 i1 i2 i3)
            | (go_at_call 11; refine (cR _ WI).mono ?_; rintro y w3 ⟨rfl, hb⟩; replace WI := WI.below hb; replace J := J.below hb; replace HB := Below.tr HB hb; clear x0 x1 x2 x3 x4; clear j0 j1 j2 j3; obtain ⟨x0, x1, x2, x3, x4⟩ := WI.1; obtain ⟨⟨j0, j1, j2, j3⟩, -⟩ := J.box; clear hb)
            | (go_at_call 14; refine (cH _ WI).mono ?_; rintro y w4 ⟨rfl, hb⟩; have hA : Below w4.heap.size w4 (w4.alloc (.cells #[.bool false, .slice none 0 0, .slice none 0 0, .slice none 0 0] 32)) := (Below.refl _ _).alloc (Nat.le_refl _) _; replace WI := (WI.below hb).below hA; replace J := (J.below hb).below hA; replace HB := Below.tr (Below.tr HB hb) hA; clear x0 x1 x2 x3 x4; clear j0 j1 j2 j3; obtain ⟨x0, x1, x2, x3, x4⟩ := WI.1; obtain ⟨⟨j0, j1, j2, j3⟩, -⟩ := J.box; clear hb hA)
            | (go_at_call 9; refine (cA _).mono ?_; rintro y w5 ⟨rfl, hb⟩; replace WI := WI.below hb; replace J := J.below hb; replace HB := Below.tr HB hb; clear x0 x1 x2 x3 x4; clear j0 j1 j2 j3; obtain ⟨x0, x1, x2, x3, x4⟩ := WI.1; obtain ⟨⟨j0, j1, j2, j3⟩, -⟩ := J.box; clear hb)
            | (go_at_call 12; refine (cQ _ WI).mono ?_; rintro y w6 ⟨rfl, hb⟩; replace J := J.below hb; replace HB := Below.tr HB hb; clear x0 x1 x2 x3 x4; clear j0 j1 j2 j3; obtain ⟨⟨j0, j1, j2, j3⟩, -⟩ := J.box; clear hb)
            | (go_at_call 13; refine (like_none J).mono ?_; rintro y w7 ⟨rfl, hb⟩; replace HB := Below.tr HB hb; clear hb)
            )
        go_ret
        exact ⟨rfl, HB⟩
      | some nd =>
        obtain ⟨l, ks, vs, cs⟩ := nd
        rw [ho] at cL cH
        replace cL : ∀ V {h : Nat}, WoodIn V h a n c a' n' c' b p f bs ns ps root gen → Calls Try.prog 10 #[.agg #[.slice a n c, .slice a' n' c', .slice b p f, .int .i64 root, .int .i64 gen], .int .i64 block, .bool rt] V fun x w' => Answers V x w' l ks vs cs 0 := fun V h x => by have := cL V x; unfold LoadC at this; simpa using this
        replace cH : ∀ V {h : Nat}, WoodIn V h a n c a' n' c' b p f bs ns ps root gen → Calls Try.prog 14 #[.agg #[.slice a n c, .slice a' n' c', .slice b p f, .int .i64 root, .int .i64 gen], .int .i64 block, .bool rt] V fun x w' => ∃ k1 a1 d1 k2 a2 d2 k3 a3 d3, x = .returned (.tuple #[.agg #[.bool l, .slice a1 k1 d1, .slice a2 k2 d2, .slice a3 k3 d3], .bool true]) ∧ k1 = ks.length ∧ k2 = vs.length ∧ k3 = cs.length ∧ IsS w' a1 d1 ks ∧ IsS w' a2 d2 vs ∧ IsI w' a3 d3 cs ∧ From V.heap.size a1 ∧ From V.heap.size a2 ∧ From V.heap.size a3 ∧ Below V.heap.size V w' := fun V h x => cH V x
        clear hr ho
        go_enter Try.func3, Try.ntmps3
        go_wp2_with (first
            | (go_at_call 8; rw [← hW]; refine (cS _).mono ?_; rintro y w1 ⟨rfl, hb⟩; replace WI := WI.below hb; replace HB := Below.tr HB hb; clear x0 x1 x2 x3 x4; obtain ⟨x0, x1, x2, x3, x4⟩ := WI.1; clear hb)
            | (go_at_call 10; refine (cL _ WI).mono ?_; rintro y w2 ⟨k1, a1, d1, k1', a1', d1', k1'', a1'', d1'', rfl, e1, e2, e3, i1, i2, i3, -, -, -, hb⟩; have hA : Below w2.heap.size w2 (w2.alloc (.cells #[.bool l, .slice a1 k1 d1, .slice a1' k1' d1', .slice a1'' k1'' d1''] 32)) := (Below.refl _ _).alloc (Nat.le_refl _) _; have J := nodeIn_new w2 w2.heap.size l rfl e1 e2 e3 i1 i2 i3; replace WI := (WI.below hb).below hA; replace HB := Below.tr (Below.tr HB hb) hA; clear x0 x1 x2 x3 x4; obtain ⟨x0, x1, x2, x3, x4⟩ := WI.1; obtain ⟨⟨j0, j1, j2, j3⟩, -⟩ := J.box; clear hb hA e1 e2 e3 i1 i2 i3)
            | (go_at_call 11; refine (cR _ WI).mono ?_; rintro y w3 ⟨rfl, hb⟩; replace WI := WI.below hb; replace J := J.below hb; replace HB := Below.tr HB hb; clear x0 x1 x2 x3 x4; clear j0 j1 j2 j3; obtain ⟨x0, x1, x2, x3, x4⟩ := WI.1; obtain ⟨⟨j0, j1, j2, j3⟩, -⟩ := J.box; clear hb)
            | (go_at_call 14; refine (cH _ WI).mono ?_; rintro y w4 ⟨k2, a2, d2, k2', a2', d2', k2'', a2'', d2'', rfl, e1, e2, e3, i1, i2, i3, -, -, -, hb⟩; have hA : Below w4.heap.size w4 (w4.alloc (.cells #[.bool l, .slice a2 k2 d2, .slice a2' k2' d2', .slice a2'' k2'' d2''] 32)) := (Below.refl _ _).alloc (Nat.le_refl _) _; have K := nodeIn_new w4 w4.heap.size l rfl e1 e2 e3 i1 i2 i3; replace WI := (WI.below hb).below hA; replace J := (J.below hb).below hA; replace HB := Below.tr (Below.tr HB hb) hA; clear x0 x1 x2 x3 x4; clear j0 j1 j2 j3; obtain ⟨x0, x1, x2, x3, x4⟩ := WI.1; obtain ⟨⟨j0, j1, j2, j3⟩, -⟩ := J.box; obtain ⟨⟨m0, m1, m2, m3⟩, -⟩ := K.box; clear hb hA e1 e2 e3 i1 i2 i3)
            | (go_at_call 9; refine (cA _).mono ?_; rintro y w5 ⟨rfl, hb⟩; replace WI := WI.below hb; replace J := J.below hb; replace K := K.below hb; replace HB := Below.tr HB hb; clear x0 x1 x2 x3 x4; clear j0 j1 j2 j3 m0 m1 m2 m3; obtain ⟨x0, x1, x2, x3, x4⟩ := WI.1; obtain ⟨⟨j0, j1, j2, j3⟩, -⟩ := J.box; obtain ⟨⟨m0, m1, m2, m3⟩, -⟩ := K.box; clear hb)
            | (go_at_call 12; refine (cQ _ WI).mono ?_; rintro y w6 ⟨rfl, hb⟩; replace J := J.below hb; replace K := K.below hb; replace HB := Below.tr HB hb; clear x0 x1 x2 x3 x4; clear j0 j1 j2 j3 m0 m1 m2 m3; obtain ⟨⟨j0, j1, j2, j3⟩, -⟩ := J.box; obtain ⟨⟨m0, m1, m2, m3⟩, -⟩ := K.box; clear hb)
            | (go_at_call 13; refine (like_in J K).mono ?_; rintro y w7 ⟨rfl, hb⟩; replace HB := Below.tr HB hb; clear hb)
            )
        go_ret
        exact ⟨rfl, HB⟩

end Go.Proofs.Ytmldemgciidpbaa

namespace Go.Proofs.Ytmldemgciidpbaa
open Go.RowKit Plain
set_option linter.unusedVariables false

theorem not_take {ms : List Int} {v x : Int} {j : Nat} (h : ∀ y ∈ ms.take j, ¬ y = v) (hx : ms[j]? = some x) (hne : ¬ v = x) : ∀ y ∈ ms.take (j + 1), ¬ y = v := by
  intro y hy
  rw [List.take_add_one, hx] at hy
  simp at hy
  rcases hy with hy | hy
  · exact h y hy
  · subst hy; exact fun e => hne e.symm

set_option maxHeartbeats 400000 in
theorem index_any (a : Option Addr) (c : Nat) (ms : List Int) (v : Int) (w : World) (hI : IsI w a c ms) :
    Calls Try.prog 70 #[.slice a ms.length c, .int .i64 v] w fun e w' => (∃ r : Int, e = .returned (.int .i64 r) ∧ (decide (0 ≤ r) = decide (v ∈ ms))) ∧ w = w' := by
  have hm : ms.length ≤ 9223372036854775807 := Nat.le_trans hI.1 hI.2.1
  have HI : Hid (IsI w a c ms) := hI
  clear hI
  go_enter Try.func70, Try.ntmps70
  go_wp2
  go_loop [8] (fun u => ∃ j : Nat, j ≤ ms.length ∧ u = .int .i64 j ∧ ∀ y ∈ ms.take j, ¬ y = v) (fun u => ms.length - (intOf u).toNat)
  case atStart => exact ⟨0, by omega, rfl, fun y hy => by simp at hy⟩
  case round =>
    obtain ⟨j, hj, rfl, HA⟩ := hrel
    by_cases hlt : j < ms.length
    · obtain ⟨x, hx⟩ : ∃ x, ms[j]? = some x := ⟨_, List.getElem?_eq_getElem hlt⟩
      obtain ⟨b, o, rfl, hlb, hc⟩ := HI.out.2.2 j x hx
      have hmem : Hid (x ∈ ms) := List.mem_of_getElem? hx
      have hA' : Hid (¬ v = x → ∀ y ∈ ms.take (j + 1), ¬ y = v) := not_take HA hx
      clear HA hx hlb
      have hlt' : (j : Int) < ms.length := by omega
      by_cases he : v = x
      · subst he
        go_wp2
        go_ret
        exact ⟨⟨j, rfl, by simpa using hmem.out⟩, rfl⟩
      · have he' : (v == x) = false := by simpa using he
        go_wp2
        go_round
        case rel => exact ⟨j + 1, by omega, by go_num, hA'.out he⟩
        case measure => simp [intOf]; omega
    · obtain rfl : j = ms.length := by omega
      rw [List.take_length] at HA
      have HB : Hid (¬ v ∈ ms) := fun h => HA v h rfl
      clear HA hj hlt
      go_wp2
      go_ret
      exact ⟨⟨-1, rfl, by simpa using HB.out⟩, rfl⟩

theorem contains_any (a : Option Addr) (c : Nat) (ms : List Int) (v : Int) (w : World) (hI : IsI w a c ms) :
    Calls Try.prog 54 #[.slice a ms.length c, .int .i64 v] w fun e w' => e = .returned (.bool (decide (v ∈ ms))) ∧ w = w' := by
  have c1 := index_any a c ms v w hI
  obtain ⟨n, hn⟩ : ∃ n, n = ms.length := ⟨_, rfl⟩
  rw [← hn] at c1 ⊢
  clear hI hn
  go_enter Try.func54, Try.ntmps54
  go_wp2_with (go_at_call 70; refine c1.mono ?_; rintro e w1 ⟨⟨r, rfl, hr⟩, rfl⟩; have hr' : Hid _ := hr; clear hr)
  go_ret
  exact ⟨ret_bool hr'.out, rfl⟩

/-- What Want hands back. -/
def wantE (s : ByteArray) (ms : List Int) : Int := if readE s = 0 then (if readK s ∈ ms then 0 else 40) else readE s
def wantK (s : ByteArray) (ms : List Int) : Int := if wantE s ms = 0 then readK s else 0
def wantG (s : ByteArray) (ms : List Int) : Int := if wantE s ms = 0 then readG s else 0
def wantB (s : ByteArray) (ms : List Int) : ByteArray := if wantE s ms = 0 then readB s else ⟨#[]⟩

set_option maxHeartbeats 1000000 in
theorem want_any (s : ByteArray) (a : Option Addr) (c : Nat) (ms : List Int) (w : World) (hs : s.size ≤ maxLen) (hI : IsI w a c ms) :
    Calls Try.prog 35 #[.string s, .slice a ms.length c] w fun e w' => e = .returned (.tuple #[.agg #[.int .i64 (wantK s ms), .int .i64 (wantG s ms), .string (wantB s ms)], .int .i64 (wantE s ms)]) ∧ Below w.heap.size w w' := by
  have c1 := fun W => pageGet_any s W hs
  obtain ⟨E, hE⟩ : ∃ E, E = readE s := ⟨_, rfl⟩
  obtain ⟨K, hK⟩ : ∃ K, K = readK s := ⟨_, rfl⟩
  obtain ⟨G, hG⟩ : ∃ G, G = readG s := ⟨_, rfl⟩
  obtain ⟨B, hB⟩ : ∃ B, B = readB s := ⟨_, rfl⟩
  have c2 : ∀ W, Below w.heap.size w W → Calls Try.prog 54 #[.slice a ms.length c, .int .i64 K] W fun e w' => e = .returned (.bool (decide (K ∈ ms))) ∧ W = w' :=
    fun W hW => contains_any a c ms K W (hI.below hW)
  have xE : wantE s ms = if E = 0 then (if K ∈ ms then 0 else 40) else E := by rw [hE, hK]; rfl
  have xK : wantK s ms = if wantE s ms = 0 then K else 0 := by rw [hK]; rfl
  have xG : wantG s ms = if wantE s ms = 0 then G else 0 := by rw [hG]; rfl
  have xB : wantB s ms = if wantE s ms = 0 then B else ⟨#[]⟩ := by rw [hB]; rfl
  rw [← hE, ← hK, ← hG, ← hB] at c1
  clear hE hK hG hB hI
  obtain ⟨n, hn⟩ : ∃ n, n = ms.length := ⟨_, rfl⟩
  rw [← hn] at c2 ⊢
  clear hn
  obtain ⟨rE, hrE⟩ : ∃ r, r = wantE s ms := ⟨_, rfl⟩
  obtain ⟨rK, hrK⟩ : ∃ r, r = wantK s ms := ⟨_, rfl⟩
  obtain ⟨rG, hrG⟩ : ∃ r, r = wantG s ms := ⟨_, rfl⟩
  obtain ⟨rB, hrB⟩ : ∃ r, r = wantB s ms := ⟨_, rfl⟩
  rw [← hrE, ← hrK, ← hrG, ← hrB]
  rw [← hrE] at xE xK xG xB
  rw [← hrK] at xK
  rw [← hrG] at xG
  rw [← hrB] at xB
  clear hrE hrK hrG hrB
  by_cases h0 : E = 0
  · rw [if_pos h0] at xE
    by_cases hm : K ∈ ms
    · rw [if_pos hm] at xE
      rw [xE] at xK xG xB ⊢
      rw [show rK = K from xK, show rG = G from xG, show rB = B from xB]
      have hd : ∀ W, Below w.heap.size w W → Calls Try.prog 54 #[.slice a n c, .int .i64 K] W fun e w' => e = .returned (.bool true) ∧ W = w' := by
        intro W hW; have := c2 W hW; rwa [decide_eq_true hm] at this
      clear xE xK xG xB c2 hm
      subst h0
      go_enter Try.func35, Try.ntmps35
      go_wp2_with (first
        | (go_at_call 53; refine (c1 _).mono ?_; rintro e w1 ⟨rfl, hb⟩; have hB := below_box hb; obtain ⟨⟨q0, q1, q2⟩, f0, f1, f2⟩ := ((box3_new _ _ _ _ _).below hb).alloc (.cells #[.int .i64 K, .int .i64 G, .string B] 67); replace hB := hB.alloc hB.size (.cells #[.int .i64 K, .int .i64 G, .string B] 67); clear hb)
        | (go_at_call 54; refine (hd _ hB).mono ?_; rintro e w2 ⟨rfl, rfl⟩))
      obtain ⟨z0, z1, z2⟩ := set3_cells (v0 := .int .i64 K) (v1 := .int .i64 G) (v2 := .string B) q0 q1 q2
      exact bodyPost_ret (v := .tuple #[.agg #[.int .i64 K, .int .i64 G, .string B], .int .i64 0]) (by simp [results, Try.results35, go_sem, z0, z1, z2]) rfl ⟨rfl, below_set3 hB (Nat.le_refl _)⟩
    · rw [if_neg hm] at xE
      rw [xE] at xK xG xB ⊢
      rw [show rK = 0 from xK, show rG = 0 from xG, show rB = ⟨#[]⟩ from xB]
      have hd : ∀ W, Below w.heap.size w W → Calls Try.prog 54 #[.slice a n c, .int .i64 K] W fun e w' => e = .returned (.bool false) ∧ W = w' := by
        intro W hW; have := c2 W hW; rwa [decide_eq_false hm] at this
      clear xE xK xG xB c2 hm
      subst h0
      go_enter Try.func35, Try.ntmps35
      go_wp2_with (first
        | (go_at_call 53; refine (c1 _).mono ?_; rintro e w1 ⟨rfl, hb⟩; have hB := below_box hb; obtain ⟨⟨q0, q1, q2⟩, f0, f1, f2⟩ := ((box3_new _ _ _ _ _).below hb).alloc (.cells #[.int .i64 K, .int .i64 G, .string B] 67); replace hB := hB.alloc hB.size (.cells #[.int .i64 K, .int .i64 G, .string B] 67); clear hb)
        | (go_at_call 54; refine (hd _ hB).mono ?_; rintro e w2 ⟨rfl, rfl⟩))
      obtain ⟨z0, z1, z2⟩ := set3_cells (v0 := .int .i64 0) (v1 := .int .i64 0) (v2 := .string ⟨#[]⟩) q0 q1 q2
      exact bodyPost_ret (v := .tuple #[.agg #[.int .i64 0, .int .i64 0, .string ⟨#[]⟩], .int .i64 40]) (by simp [results, Try.results35, go_sem, z0, z1, z2]) rfl ⟨rfl, below_set3 hB (Nat.le_refl _)⟩
  · rw [if_neg h0] at xE
    rw [if_neg (by rw [xE]; exact h0)] at xK xG xB
    rw [xK, xG, xB, xE]
    clear xE xK xG xB c2
    have h0' : (E == 0) = false := by simpa using h0
    go_enter Try.func35, Try.ntmps35
    go_wp2_with (first
      | (go_at_call 53; refine (c1 _).mono ?_; rintro e w1 ⟨rfl, hb⟩; have hB := below_box hb; obtain ⟨⟨q0, q1, q2⟩, f0, f1, f2⟩ := ((box3_new _ _ _ _ _).below hb).alloc (.cells #[.int .i64 K, .int .i64 G, .string B] 67); replace hB := hB.alloc hB.size (.cells #[.int .i64 K, .int .i64 G, .string B] 67); clear hb))
    obtain ⟨z0, z1, z2⟩ := set3_cells (v0 := .int .i64 0) (v1 := .int .i64 0) (v2 := .string ⟨#[]⟩) q0 q1 q2
    exact bodyPost_ret (v := .tuple #[.agg #[.int .i64 0, .int .i64 0, .string ⟨#[]⟩], .int .i64 E]) (by simp [results, Try.results35, go_sem, z0, z1, z2]) rfl ⟨rfl, below_set3 hB (Nat.le_refl _)⟩

end Go.Proofs.Ytmldemgciidpbaa

namespace Go.Proofs.Ytmldemgciidpbaa
open Go.RowKit Plain
set_option linter.unusedVariables false

theorem isI_pair (W : World) (m n : Int) : IsI (W.alloc (.cells #[.int .i64 m, .int .i64 n] 3)) (some ⟨W.heap.size, 0, none⟩) 2 [m, n] := by
  refine ⟨Nat.le_refl _, by decide, fun j x hx => ⟨W.heap.size, 0, rfl, by simp, ?_⟩⟩
  match j, hx with
  | 0, hx => simp at hx; subst hx; exact World.cell?_alloc_at _ _ _ _ rfl
  | 1, hx => simp at hx; subst hx; exact World.cell?_alloc_at _ _ _ _ rfl

theorem gE_kind {K : Int} {s : ByteArray} (h : ¬ K ∈ [(1 : Int), 2]) : gE K s = 81 := by
  unfold gE nodeR
  simp at h
  rw [if_neg h.1, if_neg h.2]

theorem pageN_want (s : ByteArray) (gen : Int) (rt : Bool) : pageN s gen rt = if wantE s [1, 2] = 0 ∧ wantG s [1, 2] ≤ gen ∧ gE (wantK s [1, 2]) (wantB s [1, 2]) = 0 ∧ rightN (gN (wantK s [1, 2]) (wantB s [1, 2])).1 (gN (wantK s [1, 2]) (wantB s [1, 2])).2.1 (gN (wantK s [1, 2]) (wantB s [1, 2])).2.2.1 (gN (wantK s [1, 2]) (wantB s [1, 2])).2.2.2 rt = true then some (gN (wantK s [1, 2]) (wantB s [1, 2])) else none := by
  by_cases h0 : readE s = 0
  · by_cases h1 : readK s ∈ [(1 : Int), 2]
    · have hE : wantE s [1, 2] = 0 := by unfold wantE; rw [if_pos h0, if_pos h1]
      have hK : wantK s [1, 2] = readK s := by unfold wantK; rw [if_pos hE]
      have hG : wantG s [1, 2] = readG s := by unfold wantG; rw [if_pos hE]
      have hB : wantB s [1, 2] = readB s := by unfold wantB; rw [if_pos hE]
      rw [hE, hK, hG, hB]
      unfold pageN
      rw [h0]
    · have hE : wantE s [1, 2] = 40 := by unfold wantE; rw [if_pos h0, if_neg h1]
      unfold pageN
      rw [if_neg (fun h => by rw [gE_kind h1] at h; exact absurd h.2.2.1 (by decide)), if_neg (fun h => by rw [hE] at h; exact absurd h.1 (by decide))]
  · have hE : wantE s [1, 2] = readE s := by unfold wantE; rw [if_neg h0]
    unfold pageN
    rw [if_neg (fun h => h0 h.1), if_neg (fun h => h0 (by rw [← hE]; exact h.1))]

theorem wantB_few (s : ByteArray) (ms : List Int) : (wantB s ms).size ≤ maxLen := by
  unfold wantB
  split
  · exact Nat.le_trans (readB_few s) (by unfold maxLen; omega)
  · exact Nat.zero_le _


set_option maxRecDepth 20000 in
set_option maxHeartbeats 4000000 in
/-- LOAD, of a walk. -/
theorem load_any (h : Nat) (a a' b : Option Addr) (n c n' c' p f : Nat) (ns : List Bool) (ps : List ByteArray) (root gen block : Int) (rt : Bool) (V : World) (hn' : n' = ns.length) (hp : p = ps.length) (hpn : p = n') (BV : WoodBox V h (.slice a n c) (.slice a' n' c') (.slice b p f) (.int .i64 root) (.int .i64 gen)) (hB' : IsB V a' c' ns) (hP : IsS V b f ps) :
    Calls Try.prog 22 #[.pointer (some ⟨h, 0, none⟩), .int .i64 block, .bool rt] V fun x V' => LoadC V x V' true (holdsS ns ps gen block rt) := by
  obtain ⟨W, hW⟩ : ∃ W, W = V.alloc (.cells #[.bool false, .slice none 0 0, .slice none 0 0, .slice none 0 0] 32) := ⟨_, rfl⟩
  have HB : Below V.heap.size V W := by rw [hW]; exact (Below.refl _ _).alloc (Nat.le_refl _) _
  have BR : Box4 W V.heap.size (.bool false) (.slice none 0 0) (.slice none 0 0) (.slice none 0 0) := by rw [hW]; exact box4_new _ _ _ _ _ _ rfl
  have BW := BV.below HB
  have mn : n' ≤ 9223372036854775807 := by rw [hn']; exact Nat.le_trans hB'.1 hB'.2.1
  have cB0 : ∀ U, Calls Try.prog 26 #[.agg #[.slice a n c, .slice a' n' c', .slice b p f, .int .i64 root, .int .i64 gen], .int .i64 block] U fun e w' => e = .returned (.bool (decide (10 ≤ block) && decide (block < (n' : Int)))) ∧ Below U.heap.size U w' := fun U => behind_any a a' b n c n' c' p f root gen block U mn
  obtain ⟨O, hO'⟩ : ∃ O, O = holdsS ns ps gen block rt := ⟨_, rfl⟩
  rw [← hO']
  obtain ⟨⟨r0, r1, r2, r3⟩, f0, f1, f2, f3⟩ := id (hW ▸ BR)
  obtain ⟨x0, x1, x2, x3, x4⟩ := id (hW ▸ BW)
  by_cases hin : 10 ≤ block ∧ block < n'
  · have cB : ∀ U, Calls Try.prog 26 #[.agg #[.slice a n c, .slice a' n' c', .slice b p f, .int .i64 root, .int .i64 gen], .int .i64 block] U fun e w' => e = .returned (.bool true) ∧ Below U.heap.size U w' := fun U => by have := cB0 U; rw [decide_eq_true hin.1, decide_eq_true hin.2] at this; exact this
    obtain ⟨h10, hl1⟩ := hin
    obtain ⟨i, rfl⟩ : ∃ i : Nat, block = i := ⟨block.toNat, by omega⟩
    have hi1 : i < ns.length := by omega
    have hi2 : i < ps.length := by omega
    obtain ⟨nw, hgn⟩ : ∃ s, ns[i]? = some s := ⟨_, List.getElem?_eq_getElem hi1⟩
    obtain ⟨s, hs⟩ : ∃ s, ps[i]? = some s := ⟨_, List.getElem?_eq_getElem hi2⟩
    have hO1 : O = if nw = true then pageN s gen rt else none := by
      rw [hO']
      unfold holdsS
      simp only [Int.toNat_natCast, List.getD_eq_getElem?_getD, hgn, hs, Option.getD_some]
      by_cases hh : nw = true
      · rw [if_pos ⟨h10, by omega, by omega, hh⟩, if_pos hh]
      · rw [if_neg (fun x => hh x.2.2.2), if_neg hh]
    obtain ⟨b1, o1, rfl, hlb1, hc1⟩ := hB'.2.2 i nw hgn
    obtain ⟨b2, o2, rfl, hlb2, hc2, hss⟩ := hP.2.2 i s hs
    have z1 := cell_below HB hc1
    have z2 := cell_below HB hc2
    have k4 : (i : Int) < n' := by omega
    have k5 : (i : Int) < p := by omega
    have cW0 := fun U => want_any s (some ⟨U.heap.size, 0, none⟩) 2 [1, 2] (U.alloc (.cells #[.int .i64 1, .int .i64 2] 3)) hss (isI_pair U 1 2)
    have cG := fun U => nodeGet_any (wantK s [1, 2]) (wantB s [1, 2]) U (wantB_few s _)
    rw [pageN_want] at hO1
    clear hO' hn' hp hpn hB' hP h10 hl1 hi1 hi2 hgn hs hlb1 hlb2 hc1 hc2 hss BV cB0
    obtain ⟨rE, hrE⟩ : ∃ x, x = wantE s [1, 2] := ⟨_, rfl⟩
    obtain ⟨rK, hrK⟩ : ∃ x, x = wantK s [1, 2] := ⟨_, rfl⟩
    obtain ⟨rG, hrG⟩ : ∃ x, x = wantG s [1, 2] := ⟨_, rfl⟩
    obtain ⟨rB, hrB⟩ : ∃ x, x = wantB s [1, 2] := ⟨_, rfl⟩
    rw [← hrE, ← hrK, ← hrG, ← hrB] at hO1
    rw [← hrE, ← hrK, ← hrG, ← hrB] at cW0
    rw [← hrK, ← hrB] at cG
    clear hrE hrK hrG hrB
    have cW : ∀ U, Calls Try.prog 35 #[.string s, .slice (some ⟨U.heap.size, 0, none⟩) 2 2] (U.alloc (.cells #[.int .i64 1, .int .i64 2] 3)) fun e w' => e = .returned (.tuple #[.agg #[.int .i64 rK, .int .i64 rG, .string rB], .int .i64 rE]) ∧ Below U.heap.size U w' := fun U => (cW0 U).mono fun e w' h => ⟨h.1, Below.tr ((Below.refl _ _).alloc (Nat.le_refl _) _) h.2⟩
    clear cW0
    obtain ⟨nE, hnE⟩ : ∃ x, x = gE rK rB := ⟨_, rfl⟩
    obtain ⟨⟨nl, nk, nv, nc⟩, hnd⟩ : ∃ x, x = gN rK rB := ⟨_, rfl⟩
    rw [← hnE, ← hnd] at hO1 cG
    clear hnE hnd
    have cR : ∀ U a1 d1 k1 a2 d2 k2 a3 d3 k3, k1 = nk.length → k2 = nv.length → k3 = nc.length → IsS U a1 d1 nk → IsS U a2 d2 nv → IsI U a3 d3 nc → Calls Try.prog 37 #[.agg #[.bool nl, .slice a1 k1 d1, .slice a2 k2 d2, .slice a3 k3 d3], .bool rt] U fun e w' => e = .returned (.bool (rightN nl nk nv nc rt)) ∧ Below U.heap.size U w' := fun U a1 d1 k1 a2 d2 k2 a3 d3 k3 h1 h2 h3 i1 i2 i3 => nodeRight_any nl a1 a2 a3 d1 d2 d3 k1 k2 k3 nk nv nc rt U h1 h2 h3 i1 i2 i3
    cases nw with
    | false =>
      replace hO1 : O = none := hO1
      clear cW cG cR
      go_enter Try.func22, Try.ntmps22
      go_wp2_with (
        (go_at_call 26; rw [← hW]; refine (cB _).mono ?_; rintro y w1 ⟨rfl, hb⟩; replace HB := Below.tr HB hb; replace BR := BR.below hb; replace BW := BW.below hb; replace z1 := cell_below hb z1; replace z2 := cell_below hb z2; clear r0 r1 r2 r3 f0 f1 f2 f3 x0 x1 x2 x3 x4; obtain ⟨⟨r0, r1, r2, r3⟩, f0, f1, f2, f3⟩ := id BR; obtain ⟨x0, x1, x2, x3, x4⟩ := id BW; clear hb))
      refine bodyPost_ret (v := .tuple #[.agg #[.bool false, .slice none 0 0, .slice none 0 0, .slice none 0 0], .int .i64 81]) (by simp [results, Try.results22, go_sem, r0, r1, r2, r3]) rfl ?_
      rw [hO1]
      exact answers_none (below_put4 HB (Nat.le_refl _) _ _ _ _)
    | true =>
      replace hO1 : O = _ := hO1.trans (if_pos rfl)
      by_cases hE : rE = 0
      · subst hE
        by_cases hG : rG ≤ gen
        · have hG' : ¬ gen < rG := by omega
          by_cases hNE : nE = 0
          · subst hNE
            cases hR : rightN nl nk nv nc rt with
            | true =>
              replace hO1 : O = some (nl, nk, nv, nc) := by rw [hO1, if_pos ⟨rfl, hG, rfl, hR⟩]
              rw [hR] at cR
              clear hR hG
              go_enter Try.func22, Try.ntmps22
              go_wp2_with (first
                | (go_at_call 26; rw [← hW]; refine (cB _).mono ?_; rintro y w1 ⟨rfl, hb⟩; replace HB := Below.tr HB hb; replace BR := BR.below hb; replace BW := BW.below hb; replace z1 := cell_below hb z1; replace z2 := cell_below hb z2; clear r0 r1 r2 r3 f0 f1 f2 f3 x0 x1 x2 x3 x4; obtain ⟨⟨r0, r1, r2, r3⟩, f0, f1, f2, f3⟩ := id BR; obtain ⟨x0, x1, x2, x3, x4⟩ := id BW; clear hb)
                | (go_at_call 35; refine (cW _).mono ?_; rintro y w2 ⟨rfl, hb⟩; have hA : Below w2.heap.size w2 (w2.alloc (.cells #[.int .i64 rK, .int .i64 rG, .string rB] 67)) := (Below.refl _ _).alloc (Nat.le_refl _) _; have b3 := box3_new w2 (.int .i64 rK) (.int .i64 rG) (.string rB) 67; replace HB := Below.tr (Below.tr HB hb) hA; replace BR := (BR.below hb).below hA; replace BW := (BW.below hb).below hA; clear z1 z2 r0 r1 r2 r3 f0 f1 f2 f3 x0 x1 x2 x3 x4; obtain ⟨⟨r0, r1, r2, r3⟩, f0, f1, f2, f3⟩ := id BR; obtain ⟨x0, x1, x2, x3, x4⟩ := id BW; obtain ⟨⟨g0, g1, g2⟩, -⟩ := id b3; clear hb hA))
              go_region
              have HU : Below (w2.alloc (.cells #[.int .i64 rK, .int .i64 rG, .string rB] 67)).heap.size (w2.alloc (.cells #[.int .i64 rK, .int .i64 rG, .string rB] 67)) (w2.alloc (.cells #[.int .i64 rK, .int .i64 rG, .string rB] 67)).drew := (Below.refl _ _).drew
              generalize (w2.alloc (.cells #[.int .i64 rK, .int .i64 rG, .string rB] 67)).drew = U at HU ⊢
              replace HB := Below.tr HB HU
              replace BR := BR.below HU
              replace b3 := b3.below HU
              clear r0 r1 r2 r3 f0 f1 f2 f3 x0 x1 x2 x3 x4 g0 g1 g2 BW HU
              obtain ⟨⟨r0, r1, r2, r3⟩, f0, f1, f2, f3⟩ := id BR
              obtain ⟨⟨g0, g1, g2⟩, -⟩ := id b3
              go_wp2_with (first
                | (go_at_call 36; refine (cG _).mono ?_; rintro y w3 ⟨k1, a1, d1, k2, a2, d2, k3, a3, d3, rfl, e1, e2, e3, i1, i2, i3, j1, j2, j3, hb⟩; have hA : Below w3.heap.size w3 (w3.alloc (.cells #[.bool nl, .slice a1 k1 d1, .slice a2 k2 d2, .slice a3 k3 d3] 32)) := (Below.refl _ _).alloc (Nat.le_refl _) _; have b4 := box4_new w3 (.bool nl) (.slice a1 k1 d1) (.slice a2 k2 d2) (.slice a3 k3 d3) 32 rfl; have hlo : V.heap.size + 1 ≤ U.heap.size := (by have := BR.lt; omega); replace HB := Below.tr (Below.tr HB hb) hA; replace BR := (BR.below hb).below hA; clear r0 r1 r2 r3 f0 f1 f2 f3 g0 g1 g2 b3; obtain ⟨⟨r0, r1, r2, r3⟩, f0, f1, f2, f3⟩ := id BR; obtain ⟨⟨m0, m1, m2, m3⟩, -⟩ := id b4; have E : Hid (k1 = nk.length ∧ k2 = nv.length ∧ k3 = nc.length) := ⟨e1, e2, e3⟩; have I : Hid (IsS (w3.alloc (.cells #[.bool nl, .slice a1 k1 d1, .slice a2 k2 d2, .slice a3 k3 d3] 32)) a1 d1 nk ∧ IsS (w3.alloc (.cells #[.bool nl, .slice a1 k1 d1, .slice a2 k2 d2, .slice a3 k3 d3] 32)) a2 d2 nv ∧ IsI (w3.alloc (.cells #[.bool nl, .slice a1 k1 d1, .slice a2 k2 d2, .slice a3 k3 d3] 32)) a3 d3 nc) := ⟨i1.below hA, i2.below hA, i3.below hA⟩; have J : Hid (From (V.heap.size + 1) a1 ∧ From (V.heap.size + 1) a2 ∧ From (V.heap.size + 1) a3) := ⟨j1.mono hlo, j2.mono hlo, j3.mono hlo⟩; clear hb hA hlo e1 e2 e3 i1 i2 i3 j1 j2 j3)
                | (go_at_call 37; refine (cR _ a1 d1 k1 a2 d2 k2 a3 d3 k3 E.out.1 E.out.2.1 E.out.2.2 I.out.1 I.out.2.1 I.out.2.2).mono ?_; rintro y w4 ⟨rfl, hb⟩; replace HB := Below.tr HB hb; replace BR := BR.below hb; replace b4 := b4.below hb; clear r0 r1 r2 r3 f0 f1 f2 f3 m0 m1 m2 m3; obtain ⟨⟨r0, r1, r2, r3⟩, f0, f1, f2, f3⟩ := id BR; obtain ⟨⟨m0, m1, m2, m3⟩, -⟩ := id b4; replace I : Hid (IsS w4 a1 d1 nk ∧ IsS w4 a2 d2 nv ∧ IsI w4 a3 d3 nc) := ⟨I.out.1.below hb, I.out.2.1.below hb, I.out.2.2.below hb⟩; clear hb))
              have T4 := turns_put4 w4 V.heap.size (.bool nl) (.slice a1 k1 d1) (.slice a2 k2 d2) (.slice a3 k3 d3)
              obtain ⟨j1, j2, j3⟩ := J.out
              refine bodyPost_ret (v := .tuple #[.agg #[.bool nl, .slice a1 k1 d1, .slice a2 k2 d2, .slice a3 k3 d3], .int .i64 0]) (by simp [results, Try.results22, go_sem, r0, r1, r2, r3]) rfl ?_
              rw [hO1]
              exact ⟨k1, a1, d1, k2, a2, d2, k3, a3, d3, rfl, E.out.1, E.out.2.1, E.out.2.2, I.out.1.turns T4 (fun x hx e => by have := j1 x hx; omega), I.out.2.1.turns T4 (fun x hx e => by have := j2 x hx; omega), I.out.2.2.turns T4 (fun x hx e => by have := j3 x hx; omega), j1.mono (by omega), j2.mono (by omega), j3.mono (by omega), below_put4 HB (Nat.le_refl _) _ _ _ _⟩
            | false =>
              replace hO1 : O = none := by rw [hO1, if_neg (fun h => by rw [hR] at h; exact absurd h.2.2.2 (by decide))]
              rw [hR] at cR
              clear hR hG
              go_enter Try.func22, Try.ntmps22
              go_wp2_with (first
                | (go_at_call 26; rw [← hW]; refine (cB _).mono ?_; rintro y w1 ⟨rfl, hb⟩; replace HB := Below.tr HB hb; replace BR := BR.below hb; replace BW := BW.below hb; replace z1 := cell_below hb z1; replace z2 := cell_below hb z2; clear r0 r1 r2 r3 f0 f1 f2 f3 x0 x1 x2 x3 x4; obtain ⟨⟨r0, r1, r2, r3⟩, f0, f1, f2, f3⟩ := id BR; obtain ⟨x0, x1, x2, x3, x4⟩ := id BW; clear hb)
                | (go_at_call 35; refine (cW _).mono ?_; rintro y w2 ⟨rfl, hb⟩; have hA : Below w2.heap.size w2 (w2.alloc (.cells #[.int .i64 rK, .int .i64 rG, .string rB] 67)) := (Below.refl _ _).alloc (Nat.le_refl _) _; have b3 := box3_new w2 (.int .i64 rK) (.int .i64 rG) (.string rB) 67; replace HB := Below.tr (Below.tr HB hb) hA; replace BR := (BR.below hb).below hA; replace BW := (BW.below hb).below hA; clear z1 z2 r0 r1 r2 r3 f0 f1 f2 f3 x0 x1 x2 x3 x4; obtain ⟨⟨r0, r1, r2, r3⟩, f0, f1, f2, f3⟩ := id BR; obtain ⟨x0, x1, x2, x3, x4⟩ := id BW; obtain ⟨⟨g0, g1, g2⟩, -⟩ := id b3; clear hb hA))
              go_region
              have HU : Below (w2.alloc (.cells #[.int .i64 rK, .int .i64 rG, .string rB] 67)).heap.size (w2.alloc (.cells #[.int .i64 rK, .int .i64 rG, .string rB] 67)) (w2.alloc (.cells #[.int .i64 rK, .int .i64 rG, .string rB] 67)).drew := (Below.refl _ _).drew
              generalize (w2.alloc (.cells #[.int .i64 rK, .int .i64 rG, .string rB] 67)).drew = U at HU ⊢
              replace HB := Below.tr HB HU
              replace BR := BR.below HU
              replace b3 := b3.below HU
              clear r0 r1 r2 r3 f0 f1 f2 f3 x0 x1 x2 x3 x4 g0 g1 g2 BW HU
              obtain ⟨⟨r0, r1, r2, r3⟩, f0, f1, f2, f3⟩ := id BR
              obtain ⟨⟨g0, g1, g2⟩, -⟩ := id b3
              go_wp2_with (first
                | (go_at_call 36; refine (cG _).mono ?_; rintro y w3 ⟨k1, a1, d1, k2, a2, d2, k3, a3, d3, rfl, e1, e2, e3, i1, i2, i3, j1, j2, j3, hb⟩; have hA : Below w3.heap.size w3 (w3.alloc (.cells #[.bool nl, .slice a1 k1 d1, .slice a2 k2 d2, .slice a3 k3 d3] 32)) := (Below.refl _ _).alloc (Nat.le_refl _) _; have b4 := box4_new w3 (.bool nl) (.slice a1 k1 d1) (.slice a2 k2 d2) (.slice a3 k3 d3) 32 rfl; have hlo : V.heap.size + 1 ≤ U.heap.size := (by have := BR.lt; omega); replace HB := Below.tr (Below.tr HB hb) hA; replace BR := (BR.below hb).below hA; clear r0 r1 r2 r3 f0 f1 f2 f3 g0 g1 g2 b3; obtain ⟨⟨r0, r1, r2, r3⟩, f0, f1, f2, f3⟩ := id BR; obtain ⟨⟨m0, m1, m2, m3⟩, -⟩ := id b4; have E : Hid (k1 = nk.length ∧ k2 = nv.length ∧ k3 = nc.length) := ⟨e1, e2, e3⟩; have I : Hid (IsS (w3.alloc (.cells #[.bool nl, .slice a1 k1 d1, .slice a2 k2 d2, .slice a3 k3 d3] 32)) a1 d1 nk ∧ IsS (w3.alloc (.cells #[.bool nl, .slice a1 k1 d1, .slice a2 k2 d2, .slice a3 k3 d3] 32)) a2 d2 nv ∧ IsI (w3.alloc (.cells #[.bool nl, .slice a1 k1 d1, .slice a2 k2 d2, .slice a3 k3 d3] 32)) a3 d3 nc) := ⟨i1.below hA, i2.below hA, i3.below hA⟩; have J : Hid (From (V.heap.size + 1) a1 ∧ From (V.heap.size + 1) a2 ∧ From (V.heap.size + 1) a3) := ⟨j1.mono hlo, j2.mono hlo, j3.mono hlo⟩; clear hb hA hlo e1 e2 e3 i1 i2 i3 j1 j2 j3)
                | (go_at_call 37; refine (cR _ a1 d1 k1 a2 d2 k2 a3 d3 k3 E.out.1 E.out.2.1 E.out.2.2 I.out.1 I.out.2.1 I.out.2.2).mono ?_; rintro y w4 ⟨rfl, hb⟩; replace HB := Below.tr HB hb; replace BR := BR.below hb; replace b4 := b4.below hb; clear r0 r1 r2 r3 f0 f1 f2 f3 m0 m1 m2 m3; obtain ⟨⟨r0, r1, r2, r3⟩, f0, f1, f2, f3⟩ := id BR; obtain ⟨⟨m0, m1, m2, m3⟩, -⟩ := id b4; replace I : Hid (IsS w4 a1 d1 nk ∧ IsS w4 a2 d2 nv ∧ IsI w4 a3 d3 nc) := ⟨I.out.1.below hb, I.out.2.1.below hb, I.out.2.2.below hb⟩; clear hb))
              refine bodyPost_ret (v := .tuple #[.agg #[.bool false, .slice none 0 0, .slice none 0 0, .slice none 0 0], .int .i64 81]) (by simp [results, Try.results22, go_sem, r0, r1, r2, r3]) rfl ?_
              rw [hO1]
              exact answers_none (below_put4 HB (Nat.le_refl _) _ _ _ _)
          · have hNE' : (nE != 0) = true := by simpa using hNE
            replace hO1 : O = none := by rw [hO1, if_neg (fun h => hNE h.2.2.1)]
            clear hG
            go_enter Try.func22, Try.ntmps22
            go_wp2_with (first
              | (go_at_call 26; rw [← hW]; refine (cB _).mono ?_; rintro y w1 ⟨rfl, hb⟩; replace HB := Below.tr HB hb; replace BR := BR.below hb; replace BW := BW.below hb; replace z1 := cell_below hb z1; replace z2 := cell_below hb z2; clear r0 r1 r2 r3 f0 f1 f2 f3 x0 x1 x2 x3 x4; obtain ⟨⟨r0, r1, r2, r3⟩, f0, f1, f2, f3⟩ := id BR; obtain ⟨x0, x1, x2, x3, x4⟩ := id BW; clear hb)
              | (go_at_call 35; refine (cW _).mono ?_; rintro y w2 ⟨rfl, hb⟩; have hA : Below w2.heap.size w2 (w2.alloc (.cells #[.int .i64 rK, .int .i64 rG, .string rB] 67)) := (Below.refl _ _).alloc (Nat.le_refl _) _; have b3 := box3_new w2 (.int .i64 rK) (.int .i64 rG) (.string rB) 67; replace HB := Below.tr (Below.tr HB hb) hA; replace BR := (BR.below hb).below hA; replace BW := (BW.below hb).below hA; clear z1 z2 r0 r1 r2 r3 f0 f1 f2 f3 x0 x1 x2 x3 x4; obtain ⟨⟨r0, r1, r2, r3⟩, f0, f1, f2, f3⟩ := id BR; obtain ⟨x0, x1, x2, x3, x4⟩ := id BW; obtain ⟨⟨g0, g1, g2⟩, -⟩ := id b3; clear hb hA))
            go_region
            have HU : Below (w2.alloc (.cells #[.int .i64 rK, .int .i64 rG, .string rB] 67)).heap.size (w2.alloc (.cells #[.int .i64 rK, .int .i64 rG, .string rB] 67)) (w2.alloc (.cells #[.int .i64 rK, .int .i64 rG, .string rB] 67)).drew := (Below.refl _ _).drew
            generalize (w2.alloc (.cells #[.int .i64 rK, .int .i64 rG, .string rB] 67)).drew = U at HU ⊢
            replace HB := Below.tr HB HU
            replace BR := BR.below HU
            replace b3 := b3.below HU
            clear r0 r1 r2 r3 f0 f1 f2 f3 x0 x1 x2 x3 x4 g0 g1 g2 BW HU
            obtain ⟨⟨r0, r1, r2, r3⟩, f0, f1, f2, f3⟩ := id BR
            obtain ⟨⟨g0, g1, g2⟩, -⟩ := id b3
            go_wp2_with (
              (go_at_call 36; refine (cG _).mono ?_; rintro y w3 ⟨k1, a1, d1, k2, a2, d2, k3, a3, d3, rfl, e1, e2, e3, i1, i2, i3, j1, j2, j3, hb⟩; have hA : Below w3.heap.size w3 (w3.alloc (.cells #[.bool nl, .slice a1 k1 d1, .slice a2 k2 d2, .slice a3 k3 d3] 32)) := (Below.refl _ _).alloc (Nat.le_refl _) _; have b4 := box4_new w3 (.bool nl) (.slice a1 k1 d1) (.slice a2 k2 d2) (.slice a3 k3 d3) 32 rfl; have hlo : V.heap.size + 1 ≤ U.heap.size := (by have := BR.lt; omega); replace HB := Below.tr (Below.tr HB hb) hA; replace BR := (BR.below hb).below hA; clear r0 r1 r2 r3 f0 f1 f2 f3 g0 g1 g2 b3; obtain ⟨⟨r0, r1, r2, r3⟩, f0, f1, f2, f3⟩ := id BR; obtain ⟨⟨m0, m1, m2, m3⟩, -⟩ := id b4; have E : Hid (k1 = nk.length ∧ k2 = nv.length ∧ k3 = nc.length) := ⟨e1, e2, e3⟩; have I : Hid (IsS (w3.alloc (.cells #[.bool nl, .slice a1 k1 d1, .slice a2 k2 d2, .slice a3 k3 d3] 32)) a1 d1 nk ∧ IsS (w3.alloc (.cells #[.bool nl, .slice a1 k1 d1, .slice a2 k2 d2, .slice a3 k3 d3] 32)) a2 d2 nv ∧ IsI (w3.alloc (.cells #[.bool nl, .slice a1 k1 d1, .slice a2 k2 d2, .slice a3 k3 d3] 32)) a3 d3 nc) := ⟨i1.below hA, i2.below hA, i3.below hA⟩; have J : Hid (From (V.heap.size + 1) a1 ∧ From (V.heap.size + 1) a2 ∧ From (V.heap.size + 1) a3) := ⟨j1.mono hlo, j2.mono hlo, j3.mono hlo⟩; clear hb hA hlo e1 e2 e3 i1 i2 i3 j1 j2 j3))
            refine bodyPost_ret (v := .tuple #[.agg #[.bool false, .slice none 0 0, .slice none 0 0, .slice none 0 0], .int .i64 81]) (by simp [results, Try.results22, go_sem, r0, r1, r2, r3]) rfl ?_
            rw [hO1]
            exact answers_none (below_put4 HB (Nat.le_refl _) _ _ _ _)
        · have hG' : gen < rG := by omega
          replace hO1 : O = none := by rw [hO1, if_neg (fun h => hG h.2.1)]
          clear hG cG cR
          go_enter Try.func22, Try.ntmps22
          go_wp2_with (first
            | (go_at_call 26; rw [← hW]; refine (cB _).mono ?_; rintro y w1 ⟨rfl, hb⟩; replace HB := Below.tr HB hb; replace BR := BR.below hb; replace BW := BW.below hb; replace z1 := cell_below hb z1; replace z2 := cell_below hb z2; clear r0 r1 r2 r3 f0 f1 f2 f3 x0 x1 x2 x3 x4; obtain ⟨⟨r0, r1, r2, r3⟩, f0, f1, f2, f3⟩ := id BR; obtain ⟨x0, x1, x2, x3, x4⟩ := id BW; clear hb)
            | (go_at_call 35; refine (cW _).mono ?_; rintro y w2 ⟨rfl, hb⟩; have hA : Below w2.heap.size w2 (w2.alloc (.cells #[.int .i64 rK, .int .i64 rG, .string rB] 67)) := (Below.refl _ _).alloc (Nat.le_refl _) _; have b3 := box3_new w2 (.int .i64 rK) (.int .i64 rG) (.string rB) 67; replace HB := Below.tr (Below.tr HB hb) hA; replace BR := (BR.below hb).below hA; replace BW := (BW.below hb).below hA; clear z1 z2 r0 r1 r2 r3 f0 f1 f2 f3 x0 x1 x2 x3 x4; obtain ⟨⟨r0, r1, r2, r3⟩, f0, f1, f2, f3⟩ := id BR; obtain ⟨x0, x1, x2, x3, x4⟩ := id BW; obtain ⟨⟨g0, g1, g2⟩, -⟩ := id b3; clear hb hA))
          go_region
          have HU : Below (w2.alloc (.cells #[.int .i64 rK, .int .i64 rG, .string rB] 67)).heap.size (w2.alloc (.cells #[.int .i64 rK, .int .i64 rG, .string rB] 67)) (w2.alloc (.cells #[.int .i64 rK, .int .i64 rG, .string rB] 67)).drew := (Below.refl _ _).drew
          generalize (w2.alloc (.cells #[.int .i64 rK, .int .i64 rG, .string rB] 67)).drew = U at HU ⊢
          replace HB := Below.tr HB HU
          replace BR := BR.below HU
          replace b3 := b3.below HU
          clear r0 r1 r2 r3 f0 f1 f2 f3 x0 x1 x2 x3 x4 g0 g1 g2 BW HU
          obtain ⟨⟨r0, r1, r2, r3⟩, f0, f1, f2, f3⟩ := id BR
          obtain ⟨⟨g0, g1, g2⟩, -⟩ := id b3
          go_wp2
          refine bodyPost_ret (v := .tuple #[.agg #[.bool false, .slice none 0 0, .slice none 0 0, .slice none 0 0], .int .i64 81]) (by simp [results, Try.results22, go_sem, r0, r1, r2, r3]) rfl ?_
          rw [hO1]
          exact answers_none (below_put4 HB (Nat.le_refl _) _ _ _ _)
      · have hE' : (rE != 0) = true := by simpa using hE
        replace hO1 : O = none := by rw [hO1, if_neg (fun h => hE h.1)]
        clear cG cR
        go_enter Try.func22, Try.ntmps22
        go_wp2_with (first
          | (go_at_call 26; rw [← hW]; refine (cB _).mono ?_; rintro y w1 ⟨rfl, hb⟩; replace HB := Below.tr HB hb; replace BR := BR.below hb; replace BW := BW.below hb; replace z1 := cell_below hb z1; replace z2 := cell_below hb z2; clear r0 r1 r2 r3 f0 f1 f2 f3 x0 x1 x2 x3 x4; obtain ⟨⟨r0, r1, r2, r3⟩, f0, f1, f2, f3⟩ := id BR; obtain ⟨x0, x1, x2, x3, x4⟩ := id BW; clear hb)
          | (go_at_call 35; refine (cW _).mono ?_; rintro y w2 ⟨rfl, hb⟩; have hA : Below w2.heap.size w2 (w2.alloc (.cells #[.int .i64 rK, .int .i64 rG, .string rB] 67)) := (Below.refl _ _).alloc (Nat.le_refl _) _; have b3 := box3_new w2 (.int .i64 rK) (.int .i64 rG) (.string rB) 67; replace HB := Below.tr (Below.tr HB hb) hA; replace BR := (BR.below hb).below hA; replace BW := (BW.below hb).below hA; clear z1 z2 r0 r1 r2 r3 f0 f1 f2 f3 x0 x1 x2 x3 x4; obtain ⟨⟨r0, r1, r2, r3⟩, f0, f1, f2, f3⟩ := id BR; obtain ⟨x0, x1, x2, x3, x4⟩ := id BW; obtain ⟨⟨g0, g1, g2⟩, -⟩ := id b3; clear hb hA))
        go_region
        have HU : Below (w2.alloc (.cells #[.int .i64 rK, .int .i64 rG, .string rB] 67)).heap.size (w2.alloc (.cells #[.int .i64 rK, .int .i64 rG, .string rB] 67)) (w2.alloc (.cells #[.int .i64 rK, .int .i64 rG, .string rB] 67)).drew := (Below.refl _ _).drew
        generalize (w2.alloc (.cells #[.int .i64 rK, .int .i64 rG, .string rB] 67)).drew = U at HU ⊢
        replace HB := Below.tr HB HU
        replace BR := BR.below HU
        replace b3 := b3.below HU
        clear r0 r1 r2 r3 f0 f1 f2 f3 x0 x1 x2 x3 x4 g0 g1 g2 BW HU
        obtain ⟨⟨r0, r1, r2, r3⟩, f0, f1, f2, f3⟩ := id BR
        obtain ⟨⟨g0, g1, g2⟩, -⟩ := id b3
        go_wp2
        refine bodyPost_ret (v := .tuple #[.agg #[.bool false, .slice none 0 0, .slice none 0 0, .slice none 0 0], .int .i64 81]) (by simp [results, Try.results22, go_sem, r0, r1, r2, r3]) rfl ?_
        rw [hO1]
        exact answers_none (below_put4 HB (Nat.le_refl _) _ _ _ _)
  · have cB : ∀ U, Calls Try.prog 26 #[.agg #[.slice a n c, .slice a' n' c', .slice b p f, .int .i64 root, .int .i64 gen], .int .i64 block] U fun e w' => e = .returned (.bool false) ∧ Below U.heap.size U w' := fun U => by
      have := cB0 U
      have hh : (decide (10 ≤ block) && decide (block < (n' : Int))) = false := by
        rw [Bool.and_eq_false_iff, decide_eq_false_iff_not, decide_eq_false_iff_not]
        by_cases h10 : 10 ≤ block
        · exact .inr fun h => hin ⟨h10, h⟩
        · exact .inl h10
      rw [hh] at this
      exact this
    have hO1 : O = none := by
      rw [hO']
      unfold holdsS
      rw [if_neg (fun h => hin ⟨h.1, by omega⟩)]
    have z1 : True := trivial
    have z2 : True := trivial
    clear hO' hn' hp hpn hB' hP BV cB0 hin
    go_enter Try.func22, Try.ntmps22
    go_wp2_with (go_at_call 26; rw [← hW]; refine (cB _).mono ?_; rintro y w1 ⟨rfl, hb⟩; replace HB := Below.tr HB hb; replace BR := BR.below hb; replace BW := BW.below hb; clear r0 r1 r2 r3 f0 f1 f2 f3 x0 x1 x2 x3 x4; obtain ⟨⟨r0, r1, r2, r3⟩, f0, f1, f2, f3⟩ := id BR; obtain ⟨x0, x1, x2, x3, x4⟩ := id BW; clear hb)
    refine bodyPost_ret (v := .tuple #[.agg #[.bool false, .slice none 0 0, .slice none 0 0, .slice none 0 0], .int .i64 81]) (by simp [results, Try.results22, go_sem, r0, r1, r2, r3]) rfl ?_
    rw [hO1]
    exact answers_none (below_put4 HB (Nat.le_refl _) _ _ _ _)

/-- What is loaded, and the error. -/
def nodeO : Option NodeS → NodeS
  | none => (false, [], [], [])
  | some nd => nd
def errO : Option NodeS → Int
  | none => 81
  | some _ => 0

theorem loadC_true (V : World) (x : Ending) (V' : World) (O : Option NodeS) : LoadC V x V' true O ↔ Answers V x V' (nodeO O).1 (nodeO O).2.1 (nodeO O).2.2.1 (nodeO O).2.2.2 (errO O) := by
  unfold LoadC
  rw [if_pos rfl]
  cases O <;> exact Iff.rfl

/-- A walk in its box: a wood, and how deep leaves lie. -/
def WalkBox (V : World) (h : Nat) (v0 v1 v2 v3 v4 : Value) (lv : Int) : Prop := WoodBox V h v0 v1 v2 v3 v4 ∧ V.cell? ⟨h, 5, none⟩ = some (.int .i64 lv) ∧ V.frozen? ⟨h, 5, none⟩ = false

theorem walkBox_new (w : World) (v0 v1 v2 v3 v4 : Value) (lv : Int) (t : TypeId) {h : Nat} (hh : h = w.heap.size) : WalkBox (w.alloc (.cells #[v0, v1, v2, v3, v4, .int .i64 lv] t)) h v0 v1 v2 v3 v4 lv := by
  subst hh
  refine ⟨⟨World.cell?_alloc_at _ _ _ _ rfl, World.cell?_alloc_at _ _ _ _ rfl, World.cell?_alloc_at _ _ _ _ rfl, World.cell?_alloc_at _ _ _ _ rfl, World.cell?_alloc_at _ _ _ _ rfl⟩, World.cell?_alloc_at _ _ _ _ rfl, ?_⟩
  exact (World.frozen?_alloc_mark w _ _ _ _ 5).trans (by simp)

theorem WalkBox.below {V V' : World} {h : Nat} {v0 v1 v2 v3 v4 : Value} {lv : Int} (b : WalkBox V h v0 v1 v2 v3 v4 lv) (hb : Below V.heap.size V V') : WalkBox V' h v0 v1 v2 v3 v4 lv :=
  ⟨b.1.below hb, cell_below hb b.2.1, by rw [hb.frozen (p := ⟨h, 5, none⟩) (cell_lt b.2.1)]; exact b.2.2⟩


theorem rightW_len {bs ns : List Bool} {ps : List ByteArray} {root gen : Int} (h : rightW bs ns ps root gen = true) : ps.length = ns.length := by
  unfold rightW at h
  simp only [Bool.and_eq_true, decide_eq_true_eq] at h
  exact h.1.1.1.1.2

set_option maxRecDepth 20000 in
set_option maxHeartbeats 4000000 in
/-- LOAD. -/
theorem lookLoad_any (a a' b : Option Addr) (n c n' c' p f : Nat) (bs ns : List Bool) (ps : List ByteArray) (root gen block : Int) (rt : Bool) (w : World) (hn : n = bs.length) (hn' : n' = ns.length) (hp : p = ps.length) (hB : IsB w a c bs) (hB' : IsB w a' c' ns) (hP : IsS w b f ps) :
    Calls Try.prog 10 #[.agg #[.slice a n c, .slice a' n' c', .slice b p f, .int .i64 root, .int .i64 gen], .int .i64 block, .bool rt] w fun x w' => LoadC w x w' (rightW bs ns ps root gen) (holdsS ns ps gen block rt) := by
  obtain ⟨W, hW⟩ : ∃ W, W = (w.alloc (.cells #[.slice a n c, .slice a' n' c', .slice b p f, .int .i64 root, .int .i64 gen] 27)).alloc (.cells #[.bool false, .slice none 0 0, .slice none 0 0, .slice none 0 0] 32) := ⟨_, rfl⟩
  have BW : WoodBox W w.heap.size (.slice a n c) (.slice a' n' c') (.slice b p f) (.int .i64 root) (.int .i64 gen) := by rw [hW]; exact (woodBox_new _ _ _ _ _ _ _ rfl).below ((Below.refl _ _).alloc (Nat.le_refl _) _)
  have BR : Box4 W (w.heap.size + 1) (.bool false) (.slice none 0 0) (.slice none 0 0) (.slice none 0 0) := by rw [hW]; exact box4_new _ _ _ _ _ _ (by simp)
  have HB : Below w.heap.size w W := by rw [hW]; exact ((Below.refl _ _).alloc (Nat.le_refl _) _).alloc (by simp) _
  have cR := lookRight_any a a' b n c n' c' p f bs ns ps root gen W hn hn' hp (hB.below HB) (hB'.below HB) (hP.below HB)
  obtain ⟨⟨r0, r1, r2, r3⟩, f0, f1, f2, f3⟩ := id (hW ▸ BR)
  obtain ⟨x0, x1, x2, x3, x4⟩ := id (hW ▸ BW)
  have hle : w.heap.size ≤ w.heap.size + 1 := by omega
  cases hR : rightW bs ns ps root gen with
  | false =>
    rw [hR] at cR
    clear hn hn' hp hB hB' hP hR
    go_enter Try.func10, Try.ntmps10
    go_wp2_with (
      (go_at_call 12; rw [← hW]; refine cR.mono ?_; rintro y w1 ⟨rfl, hb⟩; replace HB := Below.tr HB hb; replace BR := BR.below hb; replace BW := BW.below hb; clear r0 r1 r2 r3 f0 f1 f2 f3 x0 x1 x2 x3 x4; obtain ⟨⟨r0, r1, r2, r3⟩, f0, f1, f2, f3⟩ := id BR; obtain ⟨x0, x1, x2, x3, x4⟩ := id BW; clear hb))
    refine bodyPost_ret (v := .tuple #[.agg #[.bool false, .slice none 0 0, .slice none 0 0, .slice none 0 0], .int .i64 1]) (by simp [results, Try.results10, go_sem, r0, r1, r2, r3]) rfl ?_
    exact answers_none (below_put4 HB hle _ _ _ _)
  | true =>
    rw [hR] at cR
    have hpn : p = n' := by rw [hp, hn']; exact rightW_len hR
    obtain ⟨O, hO⟩ : ∃ O, O = holdsS ns ps gen block rt := ⟨_, rfl⟩
    rw [← hO]
    simp only [loadC_true]
    obtain ⟨⟨nl, nk, nv, nc⟩, hN⟩ : ∃ x, x = nodeO O := ⟨_, rfl⟩
    obtain ⟨nE, hE⟩ : ∃ x, x = errO O := ⟨_, rfl⟩
    rw [← hN, ← hE]
    have cL : ∀ (h : Nat) U, Below w.heap.size w U → WoodBox U h (.slice a n c) (.slice a' n' c') (.slice b p f) (.int .i64 root) (.int .i64 gen) → Calls Try.prog 22 #[.pointer (some ⟨h, 0, none⟩), .int .i64 block, .bool rt] U fun x V' => Answers U x V' nl nk nv nc nE := fun h U hU hb => by
      refine (load_any h a a' b n c n' c' p f ns ps root gen block rt U hn' hp hpn hb (hB'.below hU) (hP.below hU)).mono fun x V' hx => ?_
      rw [← hO, loadC_true, ← hN, ← hE] at hx
      exact hx
    clear hn hn' hp hB hB' hP hR hO hpn hN hE
    go_enter Try.func10, Try.ntmps10
    go_wp2_with (first
      | (go_at_call 12; rw [← hW]; refine cR.mono ?_; rintro y w1 ⟨rfl, hb⟩; replace HB := Below.tr HB hb; replace BR := BR.below hb; replace BW := BW.below hb; clear r0 r1 r2 r3 f0 f1 f2 f3 x0 x1 x2 x3 x4; obtain ⟨⟨r0, r1, r2, r3⟩, f0, f1, f2, f3⟩ := id BR; obtain ⟨x0, x1, x2, x3, x4⟩ := id BW; clear hb)
      | (go_at_call 22; have hA : Below w1.heap.size w1 (w1.alloc (.cells #[.slice a n c, .slice a' n' c', .slice b p f, .int .i64 root, .int .i64 gen, .int .i64 0] 61)) := (Below.refl _ _).alloc (Nat.le_refl _) _; have BK := walkBox_new w1 (.slice a n c) (.slice a' n' c') (.slice b p f) (.int .i64 root) (.int .i64 gen) 0 61 rfl; refine (cL _ _ (Below.tr HB hA) BK.1).mono ?_; rintro y w2 ⟨k1, a1, d1, k2, a2, d2, k3, a3, d3, rfl, e1, e2, e3, i1, i2, i3, j1, j2, j3, hb⟩; have hlo : w.heap.size + 2 ≤ (w1.alloc (.cells #[.slice a n c, .slice a' n' c', .slice b p f, .int .i64 root, .int .i64 gen, .int .i64 0] 61)).heap.size := (by have := BR.lt; simp; omega); replace HB := Below.tr (Below.tr HB hA) hb; replace BR := (BR.below hA).below hb; clear r0 r1 r2 r3 f0 f1 f2 f3 x0 x1 x2 x3 x4 BW BK; obtain ⟨⟨r0, r1, r2, r3⟩, f0, f1, f2, f3⟩ := id BR; have E : Hid (k1 = nk.length ∧ k2 = nv.length ∧ k3 = nc.length) := ⟨e1, e2, e3⟩; have I : Hid (IsS w2 a1 d1 nk ∧ IsS w2 a2 d2 nv ∧ IsI w2 a3 d3 nc) := ⟨i1, i2, i3⟩; have J : Hid (From (w.heap.size + 2) a1 ∧ From (w.heap.size + 2) a2 ∧ From (w.heap.size + 2) a3) := ⟨j1.mono hlo, j2.mono hlo, j3.mono hlo⟩; clear hb hA hlo e1 e2 e3 i1 i2 i3 j1 j2 j3))
    have T4 := turns_put4 w2 (w.heap.size + 1) (.bool nl) (.slice a1 k1 d1) (.slice a2 k2 d2) (.slice a3 k3 d3)
    obtain ⟨j1, j2, j3⟩ := J.out
    refine bodyPost_ret (v := .tuple #[.agg #[.bool nl, .slice a1 k1 d1, .slice a2 k2 d2, .slice a3 k3 d3], .int .i64 nE]) (by simp [results, Try.results10, go_sem, r0, r1, r2, r3]) rfl ?_
    exact ⟨k1, a1, d1, k2, a2, d2, k3, a3, d3, rfl, E.out.1, E.out.2.1, E.out.2.2, I.out.1.turns T4 (fun x hx e => by have := j1 x hx; omega), I.out.2.1.turns T4 (fun x hx e => by have := j2 x hx; omega), I.out.2.2.turns T4 (fun x hx e => by have := j3 x hx; omega), j1.mono (by omega), j2.mono (by omega), j3.mono (by omega), below_put4 HB hle _ _ _ _⟩

end Go.Proofs.Ytmldemgciidpbaa

namespace Go.Proofs.Ytmldemgciidpbaa.Plain
open Go.RowKit
set_option linter.unusedVariables false

/-- The pairs below a block that lies 9 - k deep. -/
inductive Subtree (H : Int → Bool → Option NodeS) : Nat → Int → ByteArray → ByteArray → List (ByteArray × ByteArray) → Prop
  | leaf {k : Nat} {block : Int} {low high : ByteArray} {ks vs : List ByteArray} {cs : List Int} (h : H block (decide (k = 7)) = some (true, ks, vs, cs)) (hne : ks ≠ []) (hw : ∀ x ∈ ks, withinS x low high = true) : Subtree H (k + 1) block low high (ks.zip vs)
  | inner {k : Nat} {block : Int} {low high : ByteArray} {ks vs : List ByteArray} {cs : List Int} {Qs : List (List (ByteArray × ByteArray))} (h : H block (decide (k = 7)) = some (false, ks, vs, cs)) (hw : ∀ x ∈ ks, withinS x low high = true) (hl : Qs.length = cs.length)
      (hq : ∀ (i : Nat) (b : Int) (Q : List (ByteArray × ByteArray)), cs[i]? = some b → Qs[i]? = some Q → Subtree H k b (kidFrom low ks i) (kidTo high ks i) Q) : Subtree H (k + 1) block low high Qs.flatten

theorem any_within {ks : List ByteArray} {low high : ByteArray} (h : (ks.any fun k => !withinS k low high) = false) : ∀ x ∈ ks, withinS x low high = true := by
  intro x hx
  have := List.any_eq_false.1 h x hx
  simpa using this

/-- What is taken on below a block, where nothing is amiss. -/
theorem below_sub (H : Int → Bool → Option NodeS) : ∀ (k : Nat) (t : TreeS) (block : Int) (low high : ByteArray), (belowS H k t block low high).bad = false → t.bad = false ∧ ∃ Q, Subtree H k block low high Q ∧ (belowS H k t block low high).pairs = t.pairs ++ Q
  | 0, t, block, low, high, h => by cases h
  | k + 1, t, block, low, high, h => by
    have fold : ∀ (l : List (Int × ByteArray × ByteArray)) (t0 : TreeS), (l.foldl (fun t x => if t.bad then t else belowS H k t x.1 x.2.1 x.2.2) t0).bad = false → t0.bad = false ∧ ∃ Qs : List (List (ByteArray × ByteArray)), Qs.length = l.length ∧ (∀ (i : Nat) x Q, l[i]? = some x → Qs[i]? = some Q → Subtree H k x.1 x.2.1 x.2.2 Q) ∧ (l.foldl (fun t x => if t.bad then t else belowS H k t x.1 x.2.1 x.2.2) t0).pairs = t0.pairs ++ Qs.flatten := by
      intro l
      induction l with
      | nil => exact fun t0 h0 => ⟨h0, [], rfl, fun i x Q hx => by simp at hx, by simp⟩
      | cons x l ih =>
        intro t0 h0
        rw [List.foldl_cons] at h0 ⊢
        obtain ⟨h1, Qs, hl, hq, hp⟩ := ih _ h0
        by_cases hb : t0.bad = true
        · rw [if_pos hb] at h1
          rw [hb] at h1
          cases h1
        · rw [if_neg hb] at h1 hp
          obtain ⟨h2, Q, hQ, hp2⟩ := below_sub H k t0 _ _ _ h1
          refine ⟨h2, Q :: Qs, by rw [List.length_cons, List.length_cons, hl], ?_, ?_⟩
          · intro i y R hy hR
            cases i with
            | zero => simp at hy hR; subst hy hR; exact hQ
            | succ i => exact hq i y R (by simpa using hy) (by simpa using hR)
          · rw [if_neg hb, hp, hp2, List.flatten_cons, List.append_assoc]
    rw [belowS] at h ⊢
    split at h
    · cases h
    · rename_i hb
      rw [if_neg hb]
      have hb' : t.bad = false := by
        cases hh : t.bad with
        | false => rfl
        | true => exact absurd (by rw [hh, Bool.or_true]) hb
      split at h
      · cases h
      · rename_i nd hnd
        obtain ⟨l, ks, vs, cs⟩ := nd
        simp only at h ⊢
        split at h
        · cases h
        · rename_i hem
          rw [if_neg hem]
          cases l with
          | true =>
            simp only [if_true] at h ⊢
            have h1 : (ks.any fun k => !withinS k low high) = false := by
              have h2 : ((ks.any fun k => !withinS k low high) || (decide (t.height ≠ 0) && decide (t.height ≠ 8 - (k : Int)))) = false := h
              exact (Bool.or_eq_false_iff.1 h2).1
            refine ⟨hb', ks.zip vs, .leaf hnd (fun e => hem (by simp [e])) (any_within h1), rfl⟩
          | false =>
            simp only [Bool.false_eq_true, if_false] at h ⊢
            obtain ⟨h1, Qs, hl, hq, hp⟩ := fold _ _ h
            refine ⟨hb', Qs.flatten, .inner hnd (any_within h1) (by rw [hl, kidsT_length]) (fun i b Q hb hQ => hq i _ Q (kidsT_get hb) hQ), ?_⟩
            rw [hp]
            rfl

theorem within_low {x low high : ByteArray} (h : withinS x low high = true) : ltB x low = false := by
  unfold withinS at h
  cases hh : ltB x low with
  | false => rfl
  | true => rw [hh] at h; simp at h

theorem within_high {x low high : ByteArray} (h : withinS x low high = true) : high.size = 0 ∨ ltB x high = true := by
  unfold withinS at h
  simp only [Bool.and_eq_true, Bool.or_eq_true, decide_eq_true_eq] at h
  exact h.2

theorem within_of {x low high : ByteArray} (h1 : ltB x low = false) (h2 : high.size = 0 ∨ ltB x high = true) : withinS x low high = true := by
  unfold withinS
  simp only [Bool.and_eq_true, Bool.or_eq_true, decide_eq_true_eq]
  exact ⟨by rw [h1]; rfl, h2⟩

theorem not_below {x y low : ByteArray} (h1 : ltB x y = false) (h2 : ltB y low = false) : ltB x low = false := by
  cases hh : ltB x low with
  | false => rfl
  | true => rw [ltB_le hh h2] at h1; cases h1

/-- A key that may be. -/
def keyIn (x : ByteArray) : Prop := 1 ≤ x.size ∧ x.size ≤ 32

/-- The pairs below a block rise, and lie within its bounds. -/
theorem sub_rising {H : Int → Bool → Option NodeS} (hH : ∀ b r (n : NodeS), H b r = some n → risingK n.2.1 = true ∧ (∀ x ∈ n.2.1, keyIn x) ∧ (n.1 = true → n.2.2.1.length = n.2.1.length) ∧ (n.1 = false → n.2.2.2.length = n.2.1.length + 1)) {k : Nat} {block : Int} {low high : ByteArray} {Q : List (ByteArray × ByteArray)} (h : Subtree H k block low high Q) :
    Q.Pairwise (fun a b => ltB a.1 b.1 = true) ∧ ∀ p ∈ Q, withinS p.1 low high = true ∧ keyIn p.1 := by
  induction h with
  | @leaf k block low high ks vs cs h hne hw =>
    obtain ⟨h1, h2, h3, _⟩ := hH _ _ _ h
    have hm : (ks.zip vs).map Prod.fst = ks := List.map_fst_zip (by have := h3 rfl; simp at this; omega)
    refine ⟨?_, fun p hp => ?_⟩
    · have := rising_pair h1
      simp only at this
      rw [← hm, List.pairwise_map] at this
      exact this
    · have := (List.of_mem_zip hp).1
      exact ⟨hw _ this, h2 _ this⟩
  | @inner k block low high ks vs cs Qs h hw hl hq ih =>
    obtain ⟨h1, h2, _, h4⟩ := hH _ _ _ h
    replace h4 : cs.length = ks.length + 1 := h4 rfl
    replace h1 : risingK ks = true := h1
    replace h2 : ∀ x ∈ ks, keyIn x := h2
    have hr := rising_iff.1 h1
    have at_ : ∀ (i : Nat) Q, Qs[i]? = some Q → (Q.Pairwise (fun a b => ltB a.1 b.1 = true) ∧ ∀ p ∈ Q, withinS p.1 (kidFrom low ks i) (kidTo high ks i) = true ∧ keyIn p.1) ∧ i ≤ ks.length := by
      intro i Q hQ
      have hi := (List.getElem?_eq_some_iff.1 hQ).1
      have hi' : i < cs.length := by omega
      exact ⟨ih i _ Q (List.getElem?_eq_getElem hi') hQ, by omega⟩
    have kf : ∀ (i : Nat) y, ks[i]? = some y → kidFrom low ks (i + 1) = y := fun i y hy => by
      unfold kidFrom
      rw [if_neg (by omega), Nat.add_sub_cancel, List.getD_eq_getElem?_getD, hy]
      rfl
    have kt : ∀ (i : Nat) y, ks[i]? = some y → kidTo high ks i = y := fun i y hy => by
      unfold kidTo
      rw [if_pos (List.getElem?_eq_some_iff.1 hy).1, List.getD_eq_getElem?_getD, hy]
      rfl
    refine ⟨List.pairwise_flatten.2 ⟨fun Q hQ => ?_, ?_⟩, fun p hp => ?_⟩
    · obtain ⟨i, hi⟩ := List.mem_iff_getElem?.1 hQ
      exact (at_ i Q hi).1.1
    · rw [List.pairwise_iff_getElem]
      intro i j hi hj hij x hx y hy
      obtain ⟨⟨_, hA⟩, _⟩ := at_ i _ (List.getElem?_eq_getElem hi)
      obtain ⟨⟨_, hB⟩, hj'⟩ := at_ j _ (List.getElem?_eq_getElem hj)
      obtain ⟨j, rfl⟩ : ∃ j', j = j' + 1 := ⟨j - 1, by omega⟩
      have hik : i < ks.length := by omega
      have hjk : j < ks.length := by omega
      have a1 := (hA x hx).1
      have b1 := (hB y hy).1
      rw [kt i _ (List.getElem?_eq_getElem hik)] at a1
      rw [kf j _ (List.getElem?_eq_getElem hjk)] at b1
      have a2 : ltB x.1 ks[i] = true := (within_high a1).resolve_left (by have := (h2 _ (List.getElem_mem hik)).1; omega)
      have b2 := within_low b1
      by_cases e : i = j
      · subst e
        exact ltB_le a2 b2
      · exact ltB_le (ltB_trans a2 (hr i j _ _ (by omega) (List.getElem?_eq_getElem hik) (List.getElem?_eq_getElem hjk))) b2
    · obtain ⟨Q, hQ, hpQ⟩ := List.mem_flatten.1 hp
      obtain ⟨i, hi⟩ := List.mem_iff_getElem?.1 hQ
      obtain ⟨⟨_, hA⟩, hik⟩ := at_ i Q hi
      obtain ⟨a1, a2⟩ := hA p hpQ
      refine ⟨within_of ?_ ?_, a2⟩
      · cases i with
        | zero => exact within_low a1
        | succ i =>
          have hik' : i < ks.length := by omega
          rw [kf i _ (List.getElem?_eq_getElem hik')] at a1
          exact not_below (within_low a1) (within_low (hw _ (List.getElem_mem hik')))
      · by_cases hk : i < ks.length
        · rw [kt i _ (List.getElem?_eq_getElem hk)] at a1
          have a3 : ltB p.1 ks[i] = true := (within_high a1).resolve_left (by have := (h2 _ (List.getElem_mem hk)).1; omega)
          rcases within_high (hw _ (List.getElem_mem hk)) with e | e
          · exact .inl e
          · exact .inr (ltB_trans a3 e)
        · have : kidTo high ks i = high := by unfold kidTo; rw [if_neg hk]
          rw [this] at a1
          exact within_high a1

end Go.Proofs.Ytmldemgciidpbaa.Plain

namespace Go.Proofs.Ytmldemgciidpbaa.Plain
open Go.RowKit
set_option linter.unusedVariables false

/-- The value of a key, and the error. -/
def getP : List (ByteArray × ByteArray) → ByteArray → ByteArray × Int
  | [], _ => (⟨#[]⟩, 80)
  | p :: ps, key => if p.1 = key then (p.2, 0) else getP ps key

theorem getP_skip {ps : List (ByteArray × ByteArray)} {key : ByteArray} {j : Nat} {p : ByteArray × ByteArray} (hp : ps[j]? = some p) (h : ∀ i q, i < j → ps[i]? = some q → q.1 ≠ key) (hk : p.1 = key) : getP ps key = (p.2, 0) := by
  induction ps generalizing j with
  | nil => simp at hp
  | cons q ps ih =>
    cases j with
    | zero => simp at hp; subst hp; rw [getP, if_pos hk]
    | succ j =>
      rw [getP, if_neg (h 0 q (by omega) rfl)]
      exact ih (by simpa using hp) (fun i q' hi hq => h (i + 1) q' (by omega) (by simpa using hq))

theorem getP_none {ps : List (ByteArray × ByteArray)} {key : ByteArray} (h : ∀ q ∈ ps, q.1 ≠ key) : getP ps key = (⟨#[]⟩, 80) := by
  induction ps with
  | nil => rfl
  | cons q ps ih =>
    rw [getP, if_neg (h q (by simp))]
    exact ih fun q' hq => h q' (by simp [hq])

/-- The pairs from a key on, so many, and the key behind them. -/
def fromP (ps : List (ByteArray × ByteArray)) (low : ByteArray) : List (ByteArray × ByteArray) := ps.filter fun p => !ltB p.1 low
def scanL (ps : List (ByteArray × ByteArray)) (low : ByteArray) (most : Nat) : List (ByteArray × ByteArray) := (fromP ps low).take most
def scanK (ps : List (ByteArray × ByteArray)) (low : ByteArray) (most : Nat) : ByteArray := (((fromP ps low)[most]?).map (·.1)).getD ⟨#[]⟩

theorem fromP_cut {ps : List (ByteArray × ByteArray)} {low : ByteArray} {j : Nat} {p : ByteArray × ByteArray} (hp : ps[j]? = some p) : fromP ps low = fromP (ps.take j) low ++ fromP (p :: ps.drop (j + 1)) low := by
  have hj := (List.getElem?_eq_some_iff.1 hp).1
  have h1 : ps = ps.take j ++ p :: ps.drop (j + 1) := by
    have h2 : ps.drop j = p :: ps.drop (j + 1) := by rw [List.drop_eq_getElem_cons hj]; rw [List.getElem?_eq_getElem hj] at hp; cases hp; rfl
    rw [← h2, List.take_append_drop]
  unfold fromP
  rw [← List.filter_append, ← h1]

theorem fromP_more {ps : List (ByteArray × ByteArray)} {low : ByteArray} {j : Nat} {p : ByteArray × ByteArray} (hp : ps[j]? = some p) : fromP (ps.take (j + 1)) low = if ltB p.1 low then fromP (ps.take j) low else fromP (ps.take j) low ++ [p] := by
  unfold fromP
  rw [List.take_add_one, hp, List.filter_append]
  cases h : ltB p.1 low <;> simp [h]

/-- Rows of pairs whose keys rise. -/
def Rising (ps : List (ByteArray × ByteArray)) : Prop := ps.Pairwise fun a b => ltB a.1 b.1 = true

theorem ltB_none (x : ByteArray) : ltB x ⟨#[]⟩ = false := by
  have e : (⟨#[]⟩ : ByteArray).toList = [] := by rw [ByteArray.toList_eq]
  show Op.bytesLess x.toList (⟨#[]⟩ : ByteArray).toList = false
  rw [e]
  cases x.toList <;> rfl

theorem from_all (ps : List (ByteArray × ByteArray)) : fromP ps ⟨#[]⟩ = ps := by
  unfold fromP
  exact List.filter_eq_self.2 fun p hp => by rw [ltB_none]; rfl

theorem from_rising {ps : List (ByteArray × ByteArray)} (h : Rising ps) (low : ByteArray) : Rising (fromP ps low) := List.Pairwise.filter _ h

theorem from_from {ps : List (ByteArray × ByteArray)} {low p : ByteArray} (h : ltB p low = false) : fromP (fromP ps low) p = fromP ps p := by
  unfold fromP
  rw [List.filter_filter]
  refine List.filter_congr fun x hx => ?_
  cases hh : ltB x.1 p with
  | true => rfl
  | false => rw [not_below hh h]; rfl

theorem from_drop {L : List (ByteArray × ByteArray)} (h : Rising L) {i : Nat} {p : ByteArray × ByteArray} (hp : L[i]? = some p) : fromP L p.1 = L.drop i := by
  induction L generalizing i with
  | nil => simp at hp
  | cons q L ih =>
    obtain ⟨h1, h2⟩ := List.pairwise_cons.1 h
    cases i with
    | zero =>
      simp at hp
      subst hp
      refine List.filter_eq_self.2 fun x hx => ?_
      rcases List.mem_cons.1 hx with rfl | hx
      · rw [ltB_irrefl]; rfl
      · rw [ltB_asymm (h1 x hx)]; rfl
    | succ i =>
      simp at hp
      rw [List.drop_succ_cons, ← ih h2 hp]
      unfold fromP
      rw [List.filter_cons, if_neg (by rw [h1 p (List.mem_of_getElem? hp)]; decide)]

/-- From the key of one of them on. -/
theorem from_at {ps : List (ByteArray × ByteArray)} (h : Rising ps) {low : ByteArray} {i : Nat} {p : ByteArray × ByteArray} (hp : (fromP ps low)[i]? = some p) : fromP ps p.1 = (fromP ps low).drop i := by
  have h1 : ltB p.1 low = false := by
    have := (List.mem_filter.1 (List.mem_of_getElem? hp)).2
    simpa using this
  rw [← from_from h1]
  exact from_drop (from_rising h low) hp

theorem get_at_ {ps : List (ByteArray × ByteArray)} (h : Rising ps) {j : Nat} {p : ByteArray × ByteArray} (hp : ps[j]? = some p) : getP ps p.1 = (p.2, 0) := by
  refine getP_skip hp (fun i q hi hq e => ?_) rfl
  have h1 := (List.getElem?_eq_some_iff.1 hp)
  have h2 := (List.getElem?_eq_some_iff.1 hq)
  obtain ⟨a1, rfl⟩ := h1
  obtain ⟨a2, rfl⟩ := h2
  have := List.pairwise_iff_getElem.1 h i j a2 a1 hi
  rw [e, ltB_irrefl] at this
  cases this

/-- Which key lies behind so many (none: the empty one). -/
theorem scanK_none {ps : List (ByteArray × ByteArray)} (hk : ∀ p ∈ ps, keyIn p.1) {low : ByteArray} {m : Nat} : scanK ps low m = ⟨#[]⟩ ↔ (fromP ps low).length ≤ m := by
  unfold scanK
  constructor
  · intro h
    refine Nat.le_of_not_lt fun hl => ?_
    rw [List.getElem?_eq_getElem hl] at h
    have h1 := (hk _ (List.mem_filter.1 (List.getElem_mem hl)).1).1
    have h2 : (fromP ps low)[m].1 = ⟨#[]⟩ := h
    rw [h2] at h1
    exact absurd h1 (by decide)
  · intro h
    rw [List.getElem?_eq_none h]
    rfl

theorem scanK_some {ps : List (ByteArray × ByteArray)} {low : ByteArray} {m : Nat} (h : m < (fromP ps low).length) : ∃ p, (fromP ps low)[m]? = some p ∧ scanK ps low m = p.1 :=
  ⟨_, List.getElem?_eq_getElem h, by unfold scanK; rw [List.getElem?_eq_getElem h]; rfl⟩

/-- From the key behind so many on. -/
theorem from_behind {ps : List (ByteArray × ByteArray)} (hr : Rising ps) {low : ByteArray} {m : Nat} (h : m < (fromP ps low).length) : fromP ps (scanK ps low m) = (fromP ps low).drop m := by
  obtain ⟨p, hp, e⟩ := scanK_some h
  rw [e]
  exact from_at hr hp

/-- Scanned in two pieces. -/
theorem scan_parts {ps : List (ByteArray × ByteArray)} (hr : Rising ps) {low : ByteArray} {m n : Nat} (h : m < (fromP ps low).length) :
    (scanL ps low (m + n)).drop m = scanL ps (scanK ps low m) n ∧ scanK ps low (m + n) = scanK ps (scanK ps low m) n ∧ (scanL ps low m).length = m := by
  refine ⟨?_, ?_, ?_⟩
  · unfold scanL
    rw [from_behind hr h, List.drop_take, Nat.add_sub_cancel_left]
  · obtain ⟨k, hk⟩ : ∃ k, k = scanK ps low m := ⟨_, rfl⟩
    have hb := from_behind hr h
    rw [← hk] at hb ⊢
    unfold scanK
    rw [hb, List.getElem?_drop]
  · unfold scanL
    rw [List.length_take]
    omega

theorem scan_begin (ps : List (ByteArray × ByteArray)) (low : ByteArray) (m n : Nat) : (scanL ps low (m + n)).take (scanL ps low m).length = scanL ps low m := by
  unfold scanL
  rw [List.length_take, List.take_take]
  rcases Nat.le_total m (fromP ps low).length with h | h
  · congr 1; omega
  · rw [List.take_of_length_le (l := fromP ps low) h, List.take_of_length_le]; omega

/-- Nothing lies between a text and itself with a zero behind it. -/
theorem bl_between {x y : List UInt8} (h : Op.bytesLess x y = true) : Op.bytesLess y (x ++ [0]) = false := by
  induction x generalizing y with
  | nil =>
    cases y with
    | nil => cases h
    | cons c y =>
      simp only [List.nil_append, Op.bytesLess, Bool.or_eq_false_iff, Bool.and_eq_false_iff, decide_eq_false_iff_not, beq_eq_false_iff_ne]
      refine ⟨fun hh => ?_, .inr (by cases y <;> simp)⟩
      rw [UInt8.lt_iff_toNat_lt] at hh
      exact absurd hh (Nat.not_lt_zero _)
  | cons a x ih =>
    cases y with
    | nil => simp [Op.bytesLess] at h
    | cons c y =>
      simp only [Op.bytesLess, Bool.or_eq_true, Bool.and_eq_true, decide_eq_true_eq, beq_iff_eq] at h
      simp only [List.cons_append, Op.bytesLess, Bool.or_eq_false_iff, Bool.and_eq_false_iff, decide_eq_false_iff_not, beq_eq_false_iff_ne]
      rcases h with h | ⟨rfl, h⟩
      · rw [UInt8.lt_iff_toNat_lt] at h
        refine ⟨fun hh => by rw [UInt8.lt_iff_toNat_lt] at hh; omega, .inl fun e => by subst e; omega⟩
      · exact ⟨fun hh => by rw [UInt8.lt_iff_toNat_lt] at hh; omega, .inr (ih h)⟩

theorem bl_behind (x : List UInt8) : Op.bytesLess x (x ++ [0]) = true := by
  induction x with
  | nil => rfl
  | cons a x ih => simp [Op.bytesLess, ih]

theorem zero_list (k : ByteArray) : (k ++ ⟨#[0]⟩ : ByteArray).toList = k.toList ++ [0] := by
  rw [ByteArray.toList_eq, data_append, ByteArray.toList_eq]

/-- A key with a zero behind it is there as the next one alone. -/
theorem zero_miss {ps : List (ByteArray × ByteArray)} (hr : Rising ps) {i : Nat} {p : ByteArray × ByteArray} (hp : ps[i]? = some p) (hn : ∀ q, ps[i + 1]? = some q → q.1 ≠ p.1 ++ ⟨#[0]⟩) : ∀ q ∈ ps, q.1 ≠ p.1 ++ ⟨#[0]⟩ := by
  intro q hq e
  obtain ⟨j, hj⟩ := List.mem_iff_getElem?.1 hq
  obtain ⟨a1, rfl⟩ := List.getElem?_eq_some_iff.1 hp
  obtain ⟨a2, rfl⟩ := List.getElem?_eq_some_iff.1 hj
  have hb : ltB ps[i].1 (ps[i].1 ++ ⟨#[0]⟩) = true := by show Op.bytesLess _ _ = true; rw [zero_list]; exact bl_behind _
  have hpw := List.pairwise_iff_getElem.1 hr
  rcases Nat.lt_trichotomy j i with h | h | h
  · have h1 := hpw j i a2 a1 h
    rw [e] at h1
    rw [ltB_asymm h1] at hb
    cases hb
  · subst h
    have h2 : (ps[j].1 ++ ⟨#[0]⟩ : ByteArray).size = ps[j].1.size + 1 := by rw [ByteArray.size_append]; rfl
    rw [← e] at h2
    omega
  · by_cases h1 : j = i + 1
    · subst h1
      exact hn _ hj e
    · have a3 : i + 1 < ps.length := by omega
      have h2 := hpw i (i + 1) a1 a3 (by omega)
      have h3 := hpw (i + 1) j a3 a2 (by omega)
      rw [e] at h3
      have h4 : ltB ps[i + 1].1 (ps[i].1 ++ ⟨#[0]⟩) = false := by show Op.bytesLess _ _ = false; rw [zero_list]; exact bl_between h2
      rw [h4] at h3
      cases h3

/-- Piece by piece: where so many have been scanned. -/
theorem scan_piece {ps : List (ByteArray × ByteArray)} (hr : Rising ps) {low : ByteArray} {r : Nat} (h : fromP ps low = ps.drop r) (step : Nat) :
    scanL ps low step = (ps.drop r).take step ∧ scanK ps low step = ((ps[r + step]?).map (·.1)).getD ⟨#[]⟩ ∧ ∀ p, ps[r + step]? = some p → fromP ps p.1 = ps.drop (r + step) := by
  refine ⟨by unfold scanL; rw [h], ?_, fun p hp => from_drop hr hp⟩
  unfold scanK
  rw [h, List.getElem?_drop]

/-- Numbers that are all unlike, below a bound: no more than that. -/
theorem nodup_le : ∀ (N : Nat) (l : List Int), l.Nodup → (∀ b ∈ l, 0 ≤ b ∧ b < N) → l.length ≤ N
  | 0, l, _, h => by
    cases l with
    | nil => exact Nat.le_refl _
    | cons b l => have := h b (by simp); omega
  | N + 1, l, hn, h => by
    by_cases hm : (N : Int) ∈ l
    · have h1 := nodup_le N (l.erase N) (hn.erase _) (fun b hb => by
        have h2 := (List.Nodup.mem_erase_iff hn).1 hb
        have h3 := h b h2.2
        have h4 := h2.1
        omega)
      rw [List.length_erase_of_mem hm] at h1
      omega
    · have := nodup_le N l hn (fun b hb => by
        have h3 := h b hb
        have h4 : b ≠ (N : Int) := fun e => hm (e ▸ hb)
        omega)
      omega

/-- What holds of a tree that is gone through. -/
def Sound (N : Nat) (t : TreeS) : Prop := t.blocks.Nodup ∧ (∀ b ∈ t.blocks, 0 ≤ b ∧ b < N) ∧ t.pairs.length ≤ 9 * t.blocks.length

theorem sound_none (N : Nat) : Sound N TreeS.none := ⟨List.nodup_nil, (fun b hb => absurd hb (by simp [TreeS.none])), Nat.le_refl _⟩

theorem sound_below {H : Int → Bool → Option NodeS} {N : Nat} (hH : ∀ b r n, H b r = some n → (0 ≤ b ∧ b < N) ∧ n.2.1.length ≤ 9) : ∀ (k : Nat) (t : TreeS) (block : Int) (low high : ByteArray), Sound N t → Sound N (belowS H k t block low high)
  | 0, t, block, low, high, h => h
  | k + 1, t, block, low, high, h => by
    unfold belowS
    split
    · exact h
    · rename_i hb
      split
      · exact h
      · rename_i n hn
        obtain ⟨hr, h9⟩ := hH _ _ _ hn
        have h1 : Sound N (t.node block low high n) := by
          refine ⟨?_, fun b hb' => ?_, ?_⟩
          · show (t.blocks ++ [block]).Nodup
            rw [List.nodup_append]
            refine ⟨h.1, by simp, fun a ha b hb' e => ?_⟩
            simp at hb'
            subst hb'
            subst e
            exact hb (by rw [List.contains_iff_mem.2 ha]; rfl)
          · have hb2 : b ∈ t.blocks ++ [block] := hb'
            rcases List.mem_append.1 hb2 with hb3 | hb3
            · exact h.2.1 b hb3
            · simp at hb3; subst hb3; exact hr
          · have h2 := h.2.2
            unfold TreeS.node
            cases n.1 with
            | true => simp only [if_true, List.length_append, List.length_zip, List.length_cons, List.length_nil]; omega
            | false => simp only [Bool.false_eq_true, if_false, List.length_append, List.length_cons, List.length_nil]; omega
        split
        · exact h
        · split
          · exact h1
          · have fold : ∀ (l : List (Int × ByteArray × ByteArray)) (t0 : TreeS), Sound N t0 → Sound N (l.foldl (fun t x => if t.bad then t else belowS H k t x.1 x.2.1 x.2.2) t0) := by
              intro l
              induction l with
              | nil => exact fun t0 h0 => h0
              | cons x l ih =>
                intro t0 h0
                rw [List.foldl_cons]
                refine ih _ ?_
                split
                · exact h0
                · exact sound_below hH k t0 _ _ _ h0
            exact fold _ _ h1

/-- What holds of all pairs of all leaves holds of all pairs. -/
theorem pairs_all {H : Int → Bool → Option NodeS} {P : ByteArray × ByteArray → Prop} (hH : ∀ b r (n : NodeS), H b r = some n → n.1 = true → ∀ q ∈ n.2.1.zip n.2.2.1, P q) : ∀ (k : Nat) (t : TreeS) (block : Int) (low high : ByteArray), (∀ q ∈ t.pairs, P q) → ∀ q ∈ (belowS H k t block low high).pairs, P q
  | 0, t, block, low, high, h => h
  | k + 1, t, block, low, high, h => by
    unfold belowS
    split
    · exact h
    · split
      · exact h
      · rename_i n hn
        have h1 : ∀ q ∈ (t.node block low high n).pairs, P q := by
          intro q hq
          unfold TreeS.node at hq
          cases hl : n.1 with
          | true =>
            rw [hl] at hq
            rcases List.mem_append.1 hq with h2 | h2
            · exact h q h2
            · exact hH _ _ _ hn hl q h2
          | false => rw [hl] at hq; exact h q hq
        split
        · exact h
        · split
          · exact h1
          · have fold : ∀ (l : List (Int × ByteArray × ByteArray)) (t0 : TreeS), (∀ q ∈ t0.pairs, P q) → ∀ q ∈ (l.foldl (fun t x => if t.bad then t else belowS H k t x.1 x.2.1 x.2.2) t0).pairs, P q := by
              intro l
              induction l with
              | nil => exact fun t0 h0 => h0
              | cons x l ih =>
                intro t0 h0
                rw [List.foldl_cons]
                refine ih _ ?_
                split
                · exact h0
                · exact pairs_all hH k t0 _ _ _ h0
            exact fold _ _ h1

end Go.Proofs.Ytmldemgciidpbaa.Plain

namespace Go.Proofs.Ytmldemgciidpbaa.Plain
open Go.RowKit
set_option linter.unusedVariables false

theorem getP_behind {A B : List (ByteArray × ByteArray)} {key : ByteArray} (h : ∀ q ∈ A, q.1 ≠ key) : getP (A ++ B) key = getP B key := by
  induction A with
  | nil => rfl
  | cons q A ih =>
    rw [List.cons_append, getP, if_neg (h q (by simp))]
    exact ih fun q' hq => h q' (by simp [hq])

theorem getP_ahead {A B : List (ByteArray × ByteArray)} {key : ByteArray} (h : ∀ q ∈ B, q.1 ≠ key) : getP (A ++ B) key = getP A key := by
  induction A with
  | nil => rw [List.nil_append]; exact getP_none h
  | cons q A ih =>
    rw [List.cons_append, getP, getP]
    split
    · rfl
    · exact ih

/-- Which keys lie ahead of the child that a key belongs to, and which behind. -/
theorem kidN_lt {ks : List ByteArray} {key : ByteArray} (hr : risingK ks = true) {j : Nat} {x : ByteArray} (hx : ks[j]? = some x) (h : j < kidN ks key) : ltB key x = false := by
  rw [kidN_find hr] at h
  by_cases h1 : j < findN key ks
  · exact ltB_asymm (findN_ahead hx h1)
  · split at h
    · rename_i hi
      have hj : j = findN key ks := by omega
      have := isN_iff.1 hi
      rw [← hj, hx] at this
      cases this
      exact ltB_irrefl _
    · omega

theorem kidN_ge {ks : List ByteArray} {key : ByteArray} (hr : risingK ks = true) {j : Nat} {x : ByteArray} (hx : ks[j]? = some x) (h : kidN ks key ≤ j) : ltB key x = true := by
  rw [kidN_find hr] at h
  split at h
  · rename_i hi
    exact rising_iff.1 hr (findN key ks) j key x (by omega) (isN_iff.1 hi) hx
  · rename_i hi
    have h1 := findN_behind hr hx (by omega : findN key ks ≤ j)
    cases hh : ltB key x with
    | true => rfl
    | false =>
      have e := ltB_total hh h1
      subst e
      exact absurd (isN_iff.2 (by rw [findN_there hr hx]; exact hx)) hi

theorem kidN_le (ks : List ByteArray) (key : ByteArray) : kidN ks key ≤ ks.length := by unfold kidN; exact List.countP_le_length

/-- Of a leaf. -/
theorem leaf_get {ks vs : List ByteArray} (hr : risingK ks = true) (hl : vs.length = ks.length) (key : ByteArray) : getP (ks.zip vs) key = if isN ks key = true then (vs.getD (findN key ks) ⟨#[]⟩, 0) else (⟨#[]⟩, 80) := by
  have hm : (ks.zip vs).map Prod.fst = ks := List.map_fst_zip (by omega)
  have hR : Rising (ks.zip vs) := by
    have := rising_pair hr
    rw [← hm, List.pairwise_map] at this
    exact this
  split
  · rename_i hi
    have h1 := isN_iff.1 hi
    have h2 := (List.getElem?_eq_some_iff.1 h1).1
    have h3 : vs[findN key ks]? = some (vs.getD (findN key ks) ⟨#[]⟩) := by rw [List.getD_eq_getElem?_getD, List.getElem?_eq_getElem (by omega)]; rfl
    have h4 : (ks.zip vs)[findN key ks]? = some (key, vs.getD (findN key ks) ⟨#[]⟩) := by rw [List.getElem?_zip_eq_some]; exact ⟨h1, h3⟩
    exact get_at_ hR h4
  · rename_i hi
    refine getP_none fun q hq e => hi ?_
    obtain ⟨j, hj⟩ := List.mem_iff_getElem?.1 hq
    rw [List.getElem?_zip_eq_some] at hj
    rw [e] at hj
    exact isN_iff.2 (by rw [findN_there hr hj.1]; exact hj.1)

/-- Of an inner node: below the child that the key belongs to. -/
theorem inner_get {H : Int → Bool → Option NodeS} (hH : ∀ b r (n : NodeS), H b r = some n → risingK n.2.1 = true ∧ (∀ x ∈ n.2.1, keyIn x) ∧ (n.1 = true → n.2.2.1.length = n.2.1.length) ∧ (n.1 = false → n.2.2.2.length = n.2.1.length + 1))
    {k : Nat} {low high : ByteArray} {ks : List ByteArray} {cs : List Int} {Qs : List (List (ByteArray × ByteArray))} (hr : risingK ks = true) (hk : ∀ x ∈ ks, keyIn x) (hc : cs.length = ks.length + 1) (hl : Qs.length = cs.length)
    (hq : ∀ (i : Nat) (b : Int) (Q : List (ByteArray × ByteArray)), cs[i]? = some b → Qs[i]? = some Q → Subtree H k b (kidFrom low ks i) (kidTo high ks i) Q) (key : ByteArray) :
    ∃ b Q, cs[kidN ks key]? = some b ∧ Qs[kidN ks key]? = some Q ∧ getP Qs.flatten key = getP Q key := by
  have hi := kidN_le ks key
  have h1 : kidN ks key < cs.length := by omega
  have h2 : kidN ks key < Qs.length := by omega
  refine ⟨_, _, List.getElem?_eq_getElem h1, List.getElem?_eq_getElem h2, ?_⟩
  have hsplit : Qs = Qs.take (kidN ks key) ++ Qs[kidN ks key] :: Qs.drop (kidN ks key + 1) := by rw [← List.drop_eq_getElem_cons h2, List.take_append_drop]
  have e : Qs.flatten = (Qs.take (kidN ks key)).flatten ++ (Qs[kidN ks key] ++ (Qs.drop (kidN ks key + 1)).flatten) := by
    conv => lhs; rw [hsplit]
    rw [List.flatten_append, List.flatten_cons]
  rw [e, getP_behind, getP_ahead]
  · intro q hq' e2
    obtain ⟨Q, hQ, hqQ⟩ := List.mem_flatten.1 hq'
    obtain ⟨j, hj⟩ := List.mem_iff_getElem?.1 hQ
    rw [List.getElem?_drop] at hj
    have hjl := (List.getElem?_eq_some_iff.1 hj).1
    have hjk : kidN ks key + j < ks.length := by omega
    have hs := (sub_rising hH (hq _ _ Q (List.getElem?_eq_getElem (by omega : kidN ks key + 1 + j < cs.length)) hj)).2 q hqQ
    have hw := within_low hs.1
    have hf : kidFrom low ks (kidN ks key + 1 + j) = ks[kidN ks key + j] := by
      unfold kidFrom
      rw [if_neg (by omega), show kidN ks key + 1 + j - 1 = kidN ks key + j by omega, List.getD_eq_getElem?_getD, List.getElem?_eq_getElem hjk]
      rfl
    rw [hf, e2, kidN_ge hr (List.getElem?_eq_getElem hjk) (by omega)] at hw
    cases hw
  · intro q hq' e2
    obtain ⟨Q, hQ, hqQ⟩ := List.mem_flatten.1 hq'
    obtain ⟨j, hj⟩ := List.mem_iff_getElem?.1 hQ
    have hjl := (List.getElem?_eq_some_iff.1 hj).1
    rw [List.length_take] at hjl
    have hj' : Qs[j]? = some Q := by rw [List.getElem?_take, if_pos (by omega)] at hj; exact hj
    have hjk : j < ks.length := by omega
    have hs := (sub_rising hH (hq j _ Q (List.getElem?_eq_getElem (by omega : j < cs.length)) hj')).2 q hqQ
    have ht : kidTo high ks j = ks[j] := by
      unfold kidTo
      rw [if_pos hjk, List.getD_eq_getElem?_getD, List.getElem?_eq_getElem hjk]
      rfl
    have hw := hs.1
    rw [ht] at hw
    have h3 : ltB q.1 ks[j] = true := (within_high hw).resolve_left (by have := (hk _ (List.getElem_mem hjk)).1; omega)
    rw [e2, kidN_lt hr (List.getElem?_eq_getElem hjk) (by omega)] at h3
    cases h3

/-- From a key on, of a leaf. -/
theorem leaf_from {ks vs : List ByteArray} (hr : risingK ks = true) (hl : vs.length = ks.length) (low : ByteArray) : fromP (ks.zip vs) low = (ks.zip vs).drop (findN low ks) := by
  have hsplit : ks.zip vs = (ks.zip vs).take (findN low ks) ++ (ks.zip vs).drop (findN low ks) := (List.take_append_drop _ _).symm
  have key : ∀ (j : Nat) (q : ByteArray × ByteArray), (ks.zip vs)[j]? = some q → ks[j]? = some q.1 := fun j q hj => by
    rw [List.getElem?_zip_eq_some] at hj
    exact hj.1
  unfold fromP
  conv => lhs; rw [hsplit]
  rw [List.filter_append, List.filter_eq_nil_iff.2, List.filter_eq_self.2, List.nil_append]
  · intro q hq
    obtain ⟨j, hj⟩ := List.mem_iff_getElem?.1 hq
    rw [List.getElem?_drop] at hj
    rw [findN_behind hr (key _ _ hj) (by omega)]
    rfl
  · intro q hq
    obtain ⟨j, hj⟩ := List.mem_iff_getElem?.1 hq
    have hjl := (List.getElem?_eq_some_iff.1 hj).1
    rw [List.length_take] at hjl
    rw [List.getElem?_take, if_pos (by omega)] at hj
    rw [findN_ahead (key _ _ hj) (by omega)]
    decide

/-- From a key on, of an inner node: what is below its child, and all behind. -/
theorem inner_from {H : Int → Bool → Option NodeS} (hH : ∀ b r (n : NodeS), H b r = some n → risingK n.2.1 = true ∧ (∀ x ∈ n.2.1, keyIn x) ∧ (n.1 = true → n.2.2.1.length = n.2.1.length) ∧ (n.1 = false → n.2.2.2.length = n.2.1.length + 1))
    {k : Nat} {low high : ByteArray} {ks : List ByteArray} {cs : List Int} {Qs : List (List (ByteArray × ByteArray))} (hr : risingK ks = true) (hk : ∀ x ∈ ks, keyIn x) (hc : cs.length = ks.length + 1) (hl : Qs.length = cs.length)
    (hq : ∀ (i : Nat) (b : Int) (Q : List (ByteArray × ByteArray)), cs[i]? = some b → Qs[i]? = some Q → Subtree H k b (kidFrom low ks i) (kidTo high ks i) Q) (key : ByteArray) :
    ∃ b Q, cs[kidN ks key]? = some b ∧ Qs[kidN ks key]? = some Q ∧ fromP Qs.flatten key = fromP Q key ++ (Qs.drop (kidN ks key + 1)).flatten := by
  have hi := kidN_le ks key
  have h1 : kidN ks key < cs.length := by omega
  have h2 : kidN ks key < Qs.length := by omega
  refine ⟨_, _, List.getElem?_eq_getElem h1, List.getElem?_eq_getElem h2, ?_⟩
  have hsplit : Qs = Qs.take (kidN ks key) ++ Qs[kidN ks key] :: Qs.drop (kidN ks key + 1) := by rw [← List.drop_eq_getElem_cons h2, List.take_append_drop]
  have e : Qs.flatten = (Qs.take (kidN ks key)).flatten ++ (Qs[kidN ks key] ++ (Qs.drop (kidN ks key + 1)).flatten) := by
    conv => lhs; rw [hsplit]
    rw [List.flatten_append, List.flatten_cons]
  rw [e]
  unfold fromP
  rw [List.filter_append, List.filter_append, List.filter_eq_nil_iff.2, List.nil_append, List.filter_eq_self (l := (Qs.drop (kidN ks key + 1)).flatten) |>.2]
  · intro q hq'
    obtain ⟨Q, hQ, hqQ⟩ := List.mem_flatten.1 hq'
    obtain ⟨j, hj⟩ := List.mem_iff_getElem?.1 hQ
    rw [List.getElem?_drop] at hj
    have hjl := (List.getElem?_eq_some_iff.1 hj).1
    have hjk : kidN ks key + j < ks.length := by omega
    have hs := (sub_rising hH (hq _ _ Q (List.getElem?_eq_getElem (by omega : kidN ks key + 1 + j < cs.length)) hj)).2 q hqQ
    have hw := within_low hs.1
    have hf : kidFrom low ks (kidN ks key + 1 + j) = ks[kidN ks key + j] := by
      unfold kidFrom
      rw [if_neg (by omega), show kidN ks key + 1 + j - 1 = kidN ks key + j by omega, List.getD_eq_getElem?_getD, List.getElem?_eq_getElem hjk]
      rfl
    rw [hf] at hw
    have hg := kidN_ge hr (List.getElem?_eq_getElem hjk) (by omega : kidN ks key ≤ kidN ks key + j)
    cases hh : ltB q.1 key with
    | false => rfl
    | true => rw [ltB_trans hh hg] at hw; cases hw
  · intro q hq'
    obtain ⟨Q, hQ, hqQ⟩ := List.mem_flatten.1 hq'
    obtain ⟨j, hj⟩ := List.mem_iff_getElem?.1 hQ
    have hjl := (List.getElem?_eq_some_iff.1 hj).1
    rw [List.length_take] at hjl
    have hj' : Qs[j]? = some Q := by rw [List.getElem?_take, if_pos (by omega)] at hj; exact hj
    have hjk : j < ks.length := by omega
    have hs := (sub_rising hH (hq j _ Q (List.getElem?_eq_getElem (by omega : j < cs.length)) hj')).2 q hqQ
    have ht : kidTo high ks j = ks[j] := by
      unfold kidTo
      rw [if_pos hjk, List.getD_eq_getElem?_getD, List.getElem?_eq_getElem hjk]
      rfl
    have hw := hs.1
    rw [ht] at hw
    have h3 : ltB q.1 ks[j] = true := (within_high hw).resolve_left (by have := (hk _ (List.getElem_mem hjk)).1; omega)
    rw [ltB_le h3 (kidN_lt hr (List.getElem?_eq_getElem hjk) (by omega))]
    decide

end Go.Proofs.Ytmldemgciidpbaa.Plain

namespace Go.Proofs.Ytmldemgciidpbaa.Plain
open Go.RowKit
set_option linter.unusedVariables false

/-- What any node that is held keeps to. -/
def Holding (H : Int → Bool → Option NodeS) : Prop :=
  ∀ b r (n : NodeS), H b r = some n → risingK n.2.1 = true ∧ (∀ x ∈ n.2.1, keyIn x) ∧ (n.1 = true → n.2.2.1.length = n.2.1.length) ∧ (n.1 = false → n.2.2.2.length = n.2.1.length + 1)

/-- Are there keys, and do the first and the last one lie within the bounds? -/
def withinK (ks : List ByteArray) (low high : ByteArray) : Bool :=
  !ks.isEmpty && (!ltB (ks.getD 0 ⟨#[]⟩) low && (decide (high.size = 0) || ltB (ks.getD (ks.length - 1) ⟨#[]⟩) high))

theorem withinK_iff {ks : List ByteArray} {low high : ByteArray} (hr : risingK ks = true) : withinK ks low high = true ↔ ks ≠ [] ∧ ∀ x ∈ ks, withinS x low high = true := by
  have hR := rising_iff.1 hr
  cases ks with
  | nil => simp [withinK]
  | cons k ks =>
    have h0 : (k :: ks)[0]? = some k := rfl
    have hlt : (k :: ks).length - 1 < (k :: ks).length := by simp
    obtain ⟨z, hz⟩ : ∃ z, (k :: ks)[(k :: ks).length - 1]? = some z := ⟨_, List.getElem?_eq_getElem hlt⟩
    have hd : (k :: ks).getD ((k :: ks).length - 1) ⟨#[]⟩ = z := by rw [List.getD_eq_getElem?_getD, hz]; rfl
    unfold withinK
    rw [hd]
    simp only [List.isEmpty_cons, Bool.not_false, Bool.true_and, List.getD_cons_zero, Bool.and_eq_true, Bool.or_eq_true, decide_eq_true_eq, ne_eq, reduceCtorEq, not_false_eq_true, true_and, Bool.not_eq_true']
    constructor
    · rintro ⟨h1, h2⟩ x hx
      obtain ⟨i, hi⟩ := List.mem_iff_getElem?.1 hx
      have hil := (List.getElem?_eq_some_iff.1 hi).1
      refine within_of ?_ ?_
      · by_cases e : i = 0
        · subst e; rw [h0] at hi; cases hi; exact h1
        · exact not_below (ltB_asymm (hR 0 i _ _ (by omega) h0 hi)) h1
      · rcases h2 with h2 | h2
        · exact .inl h2
        · by_cases e : i = (k :: ks).length - 1
          · subst e; rw [hz] at hi; cases hi; exact .inr h2
          · exact .inr (ltB_trans (hR i _ _ _ (by omega) hi hz) h2)
    · intro h
      have h1 := h k (by simp)
      have h2 := h z (List.mem_of_getElem? hz)
      exact ⟨within_low h1, within_high h2⟩

/-- A node that is come to, where leaves lie lv deep (0: none was seen yet). -/
def visitS (H : Int → Bool → Option NodeS) (lv : Int) (k : Nat) (block : Int) (low high : ByteArray) : Option NodeS :=
  match k with
  | 0 => none
  | k + 1 => match H block (decide (k = 7)) with
    | none => none
    | some n => if withinK n.2.1 low high = true ∧ (n.1 = true → lv = 0 ∨ lv = 8 - (k : Int)) then some n else none

theorem visitS_some {H : Int → Bool → Option NodeS} {lv : Int} {k : Nat} {block : Int} {low high : ByteArray} {n : NodeS} (h : visitS H lv (k + 1) block low high = some n) : H block (decide (k = 7)) = some n ∧ withinK n.2.1 low high = true ∧ (n.1 = true → lv = 0 ∨ lv = 8 - (k : Int)) := by
  unfold visitS at h
  simp only at h
  split at h
  · cases h
  · rename_i n' hn
    split at h
    · rename_i hh; cases h; exact ⟨hn, hh⟩
    · cases h

theorem visitS_of {H : Int → Bool → Option NodeS} {lv : Int} {k : Nat} {block : Int} {low high : ByteArray} {n : NodeS} (h : H block (decide (k = 7)) = some n) (hw : withinK n.2.1 low high = true) (hl : n.1 = true → lv = 0 ∨ lv = 8 - (k : Int)) : visitS H lv (k + 1) block low high = some n := by
  unfold visitS
  simp only [h]
  rw [if_pos ⟨hw, hl⟩]

/-- A key sought down a tree. -/
def findS (H : Int → Bool → Option NodeS) (key : ByteArray) : Nat → Int → ByteArray → ByteArray → ByteArray × Int
  | 0, _, _, _ => (⟨#[]⟩, 81)
  | k + 1, block, low, high => match visitS H 0 (k + 1) block low high with
    | none => (⟨#[]⟩, 81)
    | some n => if n.1 = true then getP (n.2.1.zip n.2.2.1) key else findS H key k (n.2.2.2.getD (kidN n.2.1 key) 0) (kidFrom low n.2.1 (kidN n.2.1 key)) (kidTo high n.2.1 (kidN n.2.1 key))

theorem getP_ends (ps : List (ByteArray × ByteArray)) (key : ByteArray) : (getP ps key).2 = 0 ∨ (getP ps key).1 = ⟨#[]⟩ ∧ ((getP ps key).2 = 80 ∨ (getP ps key).2 = 81) := by
  induction ps with
  | nil => exact .inr ⟨rfl, .inl rfl⟩
  | cons p ps ih =>
    rw [getP]
    split
    · exact .inl rfl
    · exact ih

theorem findS_ends (H : Int → Bool → Option NodeS) (key : ByteArray) : ∀ (k : Nat) (block : Int) (low high : ByteArray), (findS H key k block low high).2 = 0 ∨ (findS H key k block low high).1 = ⟨#[]⟩ ∧ ((findS H key k block low high).2 = 80 ∨ (findS H key k block low high).2 = 81)
  | 0, _, _, _ => .inr ⟨rfl, .inr rfl⟩
  | k + 1, block, low, high => by
    unfold findS
    split
    · exact .inr ⟨rfl, .inr rfl⟩
    · split
      · exact getP_ends _ _
      · exact findS_ends H key k _ _ _

/-- An inner node has keys. -/
def Keyed (H : Int → Bool → Option NodeS) : Prop := ∀ b r (n : NodeS), H b r = some n → n.1 = false → n.2.1 ≠ []

theorem findS_sub {H : Int → Bool → Option NodeS} (hH : Holding H) (hI : Keyed H) (key : ByteArray) {k : Nat} {block : Int} {low high : ByteArray} {Q : List (ByteArray × ByteArray)} (h : Subtree H k block low high Q) : findS H key k block low high = getP Q key := by
  induction h with
  | @leaf k block low high ks vs cs h hne hw =>
    obtain ⟨h1, _, _, _⟩ := hH _ _ _ h
    rw [findS, visitS_of h ((withinK_iff h1).2 ⟨hne, hw⟩) (fun _ => .inl rfl)]
    simp
  | @inner k block low high ks vs cs Qs h hw hl hq ih =>
    obtain ⟨h1, h2, _, h4⟩ := hH _ _ _ h
    replace h4 : cs.length = ks.length + 1 := h4 rfl
    replace h1 : risingK ks = true := h1
    have hne : ks ≠ [] := hI _ _ _ h rfl
    obtain ⟨b, Q, hb, hQ, e⟩ := inner_get hH h1 h2 h4 hl hq key
    rw [e, ← ih _ b Q hb hQ]
    rw [findS, visitS_of h ((withinK_iff h1).2 ⟨hne, hw⟩) (fun e => Bool.noConfusion e)]
    simp only [Bool.false_eq_true, if_false]
    rw [List.getD_eq_getElem?_getD, hb]
    rfl

/-! A way through a tree -/

/-- The pairs below a block, all leaves d deep. -/
inductive SubD (H : Int → Bool → Option NodeS) (d : Int) : Nat → Int → ByteArray → ByteArray → List (ByteArray × ByteArray) → Prop
  | leaf {k : Nat} {block : Int} {low high : ByteArray} {ks vs : List ByteArray} {cs : List Int} (h : H block (decide (k = 7)) = some (true, ks, vs, cs)) (hne : ks ≠ []) (hw : ∀ x ∈ ks, withinS x low high = true) (hd : d = 8 - (k : Int)) : SubD H d (k + 1) block low high (ks.zip vs)
  | inner {k : Nat} {block : Int} {low high : ByteArray} {ks vs : List ByteArray} {cs : List Int} {Qs : List (List (ByteArray × ByteArray))} (h : H block (decide (k = 7)) = some (false, ks, vs, cs)) (hw : ∀ x ∈ ks, withinS x low high = true) (hl : Qs.length = cs.length)
      (hq : ∀ (i : Nat) (b : Int) (Q : List (ByteArray × ByteArray)), cs[i]? = some b → Qs[i]? = some Q → SubD H d k b (kidFrom low ks i) (kidTo high ks i) Q) : SubD H d (k + 1) block low high Qs.flatten

theorem SubD.sub {H : Int → Bool → Option NodeS} {d : Int} {k : Nat} {block : Int} {low high : ByteArray} {Q : List (ByteArray × ByteArray)} (h : SubD H d k block low high Q) : Subtree H k block low high Q := by
  induction h with
  | leaf h hne hw hd => exact .leaf h hne hw
  | inner h hw hl hq ih => exact .inner h hw hl ih

/-- What is taken on below a block, where nothing is amiss: all leaves are equally deep. -/
theorem below_deep {H : Int → Bool → Option NodeS} (hH : Holding H) : ∀ (k : Nat) (hk : k ≤ 8) (t : TreeS) (block : Int) (low high : ByteArray), (belowS H k t block low high).bad = false → t.bad = false ∧ (belowS H k t block low high).height ≠ 0 ∧ (t.height = 0 ∨ t.height = (belowS H k t block low high).height) ∧ ∃ Q, SubD H (belowS H k t block low high).height k block low high Q ∧ (belowS H k t block low high).pairs = t.pairs ++ Q
  | 0, hk, t, block, low, high, h => by cases h
  | k + 1, hk, t, block, low, high, h => by
    have fold : ∀ (l : List (Int × ByteArray × ByteArray)) (t0 : TreeS), (l.foldl (fun t x => if t.bad then t else belowS H k t x.1 x.2.1 x.2.2) t0).bad = false → t0.bad = false ∧ (l ≠ [] → (l.foldl (fun t x => if t.bad then t else belowS H k t x.1 x.2.1 x.2.2) t0).height ≠ 0) ∧ (t0.height = 0 ∨ t0.height = (l.foldl (fun t x => if t.bad then t else belowS H k t x.1 x.2.1 x.2.2) t0).height) ∧ ∃ Qs : List (List (ByteArray × ByteArray)), Qs.length = l.length ∧ (∀ (i : Nat) x Q, l[i]? = some x → Qs[i]? = some Q → SubD H (l.foldl (fun t x => if t.bad then t else belowS H k t x.1 x.2.1 x.2.2) t0).height k x.1 x.2.1 x.2.2 Q) ∧ (l.foldl (fun t x => if t.bad then t else belowS H k t x.1 x.2.1 x.2.2) t0).pairs = t0.pairs ++ Qs.flatten := by
      intro l
      induction l with
      | nil => exact fun t0 h0 => ⟨h0, fun e => absurd rfl e, .inr rfl, [], rfl, fun i x Q hx => by simp at hx, by simp⟩
      | cons x l ih =>
        intro t0 h0
        rw [List.foldl_cons] at h0 ⊢
        obtain ⟨h1, hn, hh, Qs, hl, hq, hp⟩ := ih _ h0
        by_cases hb : t0.bad = true
        · rw [if_pos hb] at h1
          rw [hb] at h1
          cases h1
        · rw [if_neg hb] at h1 hp hh hq hn
          obtain ⟨h2, h3, h4, Q, hQ, hp2⟩ := below_deep hH k (by omega) t0 _ _ _ h1
          rw [if_neg hb]
          have h5 := hh.resolve_left h3
          refine ⟨h2, fun _ => h5 ▸ h3, h5 ▸ h4, Q :: Qs, by rw [List.length_cons, List.length_cons, hl], ?_, ?_⟩
          · intro i y R hy hR
            cases i with
            | zero => simp at hy hR; subst hy hR; exact h5 ▸ hQ
            | succ i => exact hq i y R (by simpa using hy) (by simpa using hR)
          · rw [hp, hp2, List.flatten_cons, List.append_assoc]
    rw [belowS] at h ⊢
    split at h
    · cases h
    · rename_i hb
      rw [if_neg hb]
      have hb' : t.bad = false := by
        cases hh : t.bad with
        | false => rfl
        | true => exact absurd (by rw [hh, Bool.or_true]) hb
      split at h
      · cases h
      · rename_i nd hnd
        obtain ⟨l, ks, vs, cs⟩ := nd
        simp only at h ⊢
        split at h
        · cases h
        · rename_i hem
          rw [if_neg hem]
          cases l with
          | true =>
            simp only [if_true] at h ⊢
            have h2 : ((ks.any fun k => !withinS k low high) || (decide (t.height ≠ 0) && decide (t.height ≠ 8 - (k : Int)))) = false := h
            obtain ⟨h1, h3⟩ := Bool.or_eq_false_iff.1 h2
            refine ⟨hb', ?_, ?_, ks.zip vs, .leaf hnd (fun e => hem (by simp [e])) (any_within h1) rfl, rfl⟩
            · show (8 - (k : Int)) ≠ 0
              omega
            · show t.height = 0 ∨ t.height = 8 - (k : Int)
              by_cases h4 : t.height = 0
              · exact .inl h4
              · right
                rw [decide_eq_true h4, Bool.true_and] at h3
                simpa using h3
          | false =>
            simp only [Bool.false_eq_true, if_false] at h ⊢
            obtain ⟨h1, hn, hh, Qs, hl, hq, hp⟩ := fold _ _ h
            have h4 : cs.length = ks.length + 1 := (hH _ _ _ hnd).2.2.2 rfl
            refine ⟨hb', hn (fun e => ?_), hh, Qs.flatten, .inner hnd (any_within h1) (by rw [hl, kidsT_length]) (fun i b Q hb hQ => hq i _ Q (kidsT_get hb) hQ), ?_⟩
            · have := congrArg List.length e
              rw [kidsT_length, List.length_nil] at this
              omega
            · rw [hp]
              rfl

/-- Pairs that are gathered, so many, and the key behind them. -/
structure ScanS where
  pairs : List (ByteArray × ByteArray)
  next : ByteArray
  lv : Int

def gatherP (m : Nat) : List (ByteArray × ByteArray) → ByteArray → List (ByteArray × ByteArray) → List (ByteArray × ByteArray) × ByteArray
  | P, nx, [] => (P, nx)
  | P, nx, p :: ps => if P.length = m then (P, p.1) else gatherP m (P ++ [p]) nx ps

/-- What is told of a row: the first ones, and the key behind them. -/
def nextK (m : Nat) (L : List (ByteArray × ByteArray)) : ByteArray := ((L[m]?).map (·.1)).getD ⟨#[]⟩

theorem nextK_few {m : Nat} {L : List (ByteArray × ByteArray)} (h : L.length ≤ m) : nextK m L = ⟨#[]⟩ := by unfold nextK; rw [List.getElem?_eq_none h]; rfl

theorem nextK_many {m : Nat} {L : List (ByteArray × ByteArray)} (hk : ∀ p ∈ L, keyIn p.1) (h : m < L.length) : (nextK m L).size ≠ 0 := by
  unfold nextK
  rw [List.getElem?_eq_getElem h]
  have := (hk _ (List.getElem_mem h)).1
  show L[m].1.size ≠ 0
  omega

theorem told_more {m : Nat} {L : List (ByteArray × ByteArray)} (h : m < L.length) (X : List (ByteArray × ByteArray)) : (L ++ X).take m = L.take m ∧ nextK m (L ++ X) = nextK m L := by
  refine ⟨List.take_append_of_le_length (by omega), ?_⟩
  unfold nextK
  rw [List.getElem?_append_left h]

theorem gather_told {m : Nat} : ∀ (ps L : List (ByteArray × ByteArray)), L.length ≤ m → gatherP m (L.take m) (nextK m L) ps = ((L ++ ps).take m, nextK m (L ++ ps))
  | [], L, h => by rw [gatherP, List.append_nil]
  | p :: ps, L, h => by
    rw [gatherP, List.take_of_length_le h]
    split
    · rename_i he
      have hl : m < (L ++ [p]).length := by simp; omega
      have e : L ++ p :: ps = (L ++ [p]) ++ ps := by simp
      rw [e, (told_more hl ps).1, (told_more hl ps).2]
      unfold nextK
      rw [← he, List.getElem?_append_right (Nat.le_refl _), Nat.sub_self, List.take_left]
      rfl
    · rename_i he
      have hl : (L ++ [p]).length ≤ m := by simp; omega
      have h1 := gather_told ps (L ++ [p]) hl
      rw [nextK_few hl, List.take_of_length_le hl] at h1
      rw [nextK_few h, h1, List.append_assoc]
      rfl

/-- All below a block gone through, from a key on. -/
def throughS (H : Int → Bool → Option NodeS) (lo : ByteArray) (m : Nat) : Nat → ScanS → Int → ByteArray → ByteArray → Int × ScanS
  | 0, s, _, _, _ => (81, s)
  | k + 1, s, block, low, high => match visitS H s.lv (k + 1) block low high with
    | none => (81, s)
    | some n => if n.1 = true then (0, ⟨(gatherP m s.pairs s.next ((n.2.1.zip n.2.2.1).drop (findN lo n.2.1))).1, (gatherP m s.pairs s.next ((n.2.1.zip n.2.2.1).drop (findN lo n.2.1))).2, 8 - (k : Int)⟩)
      else ((kidsT low high n.2.1 n.2.2.2).drop (kidN n.2.1 lo)).foldl (fun r x => if r.1 = 0 ∧ r.2.next.size = 0 then throughS H lo m k r.2 x.1 x.2.1 x.2.2 else r) (0, s)

theorem fold_stuck {α β : Type} (F : β → α → β) (r : β) (h : ∀ x, F r x = r) : ∀ l : List α, l.foldl F r = r
  | [] => rfl
  | x :: l => by rw [List.foldl_cons, h, fold_stuck F r h l]

theorem fromP_flatten (Qs : List (List (ByteArray × ByteArray))) (lo : ByteArray) : fromP Qs.flatten lo = (Qs.map fun Q => fromP Q lo).flatten := by
  unfold fromP
  rw [List.filter_flatten]

theorem fromP_twice (Q : List (ByteArray × ByteArray)) (lo : ByteArray) : fromP (fromP Q lo) lo = fromP Q lo := by
  unfold fromP
  rw [List.filter_filter]
  refine List.filter_congr fun x hx => by simp

theorem fromP_append (A B : List (ByteArray × ByteArray)) (lo : ByteArray) : fromP (A ++ B) lo = fromP A lo ++ fromP B lo := by
  unfold fromP
  rw [List.filter_append]

theorem fromP_mem {Q : List (ByteArray × ByteArray)} {lo : ByteArray} {p : ByteArray × ByteArray} (h : p ∈ fromP Q lo) : p ∈ Q ∧ ltB p.1 lo = false := by
  have := List.mem_filter.1 h
  exact ⟨this.1, by simpa using this.2⟩

/-- Of a tree. -/
theorem throughS_sub {H : Int → Bool → Option NodeS} (hH : Holding H) (hI : Keyed H) (lo : ByteArray) (m : Nat) {d : Int} {k : Nat} {block : Int} {low high : ByteArray} {Q : List (ByteArray × ByteArray)} (h : SubD H d k block low high Q) :
    ∀ (L : List (ByteArray × ByteArray)) (lv : Int), L.length ≤ m → (∀ p ∈ L, keyIn p.1) → (lv = 0 ∨ lv = d) → ∃ lv', (lv' = 0 ∨ lv' = d) ∧ throughS H lo m k ⟨L.take m, nextK m L, lv⟩ block low high = (0, ⟨(L ++ fromP Q lo).take m, nextK m (L ++ fromP Q lo), lv'⟩) := by
  induction h with
  | @leaf k block low high ks vs cs h hne hw hd =>
    intro L lv hL hk hlv
    obtain ⟨h1, _, h3, _⟩ := hH _ _ _ h
    refine ⟨8 - (k : Int), .inr hd.symm, ?_⟩
    rw [throughS, visitS_of h ((withinK_iff h1).2 ⟨hne, hw⟩) (fun _ => by rw [← hd]; exact hlv)]
    simp only [if_true]
    rw [gather_told _ L hL, leaf_from h1 (h3 rfl)]
  | @inner k block low high ks vs cs Qs h hw hl hq ih =>
    intro L lv hL hk hlv
    obtain ⟨h1, h2, _, h4⟩ := hH _ _ _ h
    replace h4 : cs.length = ks.length + 1 := h4 rfl
    replace h1 : risingK ks = true := h1
    have hne : ks ≠ [] := hI _ _ _ h rfl
    obtain ⟨b, Q, hb, hQ, e⟩ := inner_from hH h1 h2 h4 hl (fun i b Q hb hQ => (hq i b Q hb hQ).sub) lo
    have e2 : fromP Qs.flatten lo = ((Qs.drop (kidN ks lo)).map fun Q => fromP Q lo).flatten := by
      have h5 := congrArg (fun x => fromP x lo) e
      simp only [fromP_append, fromP_twice] at h5
      rw [e] at h5
      have h6 := List.append_cancel_left h5
      obtain ⟨hQl, hQe⟩ := List.getElem?_eq_some_iff.1 hQ
      have h7 : Qs.drop (kidN ks lo) = Q :: Qs.drop (kidN ks lo + 1) := by rw [List.drop_eq_getElem_cons hQl, hQe]
      rw [e, h6, fromP_flatten, h7, List.map_cons, List.flatten_cons]
    rw [e2]
    have hkey : ∀ (i : Nat) Q, Qs[i]? = some Q → ∀ p ∈ Q, keyIn p.1 := fun i Q hQ p hp => ((sub_rising hH (hq i _ Q (List.getElem?_eq_getElem (by have := (List.getElem?_eq_some_iff.1 hQ).1; omega)) hQ).sub).2 p hp).2
    have fold : ∀ (l : List (Int × ByteArray × ByteArray)) (R : List (List (ByteArray × ByteArray))), R.length = l.length → (∀ (i : Nat) x Q, l[i]? = some x → R[i]? = some Q → (∀ p ∈ Q, keyIn p.1) ∧ ∀ (L : List (ByteArray × ByteArray)) (lv : Int), L.length ≤ m → (∀ p ∈ L, keyIn p.1) → (lv = 0 ∨ lv = d) → ∃ lv', (lv' = 0 ∨ lv' = d) ∧ throughS H lo m k ⟨L.take m, nextK m L, lv⟩ x.1 x.2.1 x.2.2 = (0, ⟨(L ++ fromP Q lo).take m, nextK m (L ++ fromP Q lo), lv'⟩)) → ∀ (L : List (ByteArray × ByteArray)) (lv : Int), (∀ p ∈ L, keyIn p.1) → (lv = 0 ∨ lv = d) →
        ∃ lv', (lv' = 0 ∨ lv' = d) ∧ l.foldl (fun r x => if r.1 = 0 ∧ r.2.next.size = 0 then throughS H lo m k r.2 x.1 x.2.1 x.2.2 else r) (0, ⟨L.take m, nextK m L, lv⟩) = ((0 : Int), (⟨(L ++ (R.map fun Q => fromP Q lo).flatten).take m, nextK m (L ++ (R.map fun Q => fromP Q lo).flatten), lv'⟩ : ScanS)) := by
      intro l
      induction l with
      | nil =>
        intro R hR hc L lv hk hlv
        obtain rfl : R = [] := List.length_eq_zero_iff.1 hR
        exact ⟨lv, hlv, by simp⟩
      | cons x l ihl =>
        intro R hR hc L lv hk hlv
        cases R with
        | nil => simp at hR
        | cons Q R =>
          by_cases hL : L.length ≤ m
          · obtain ⟨hkQ, hc0⟩ := hc 0 x Q rfl rfl
            obtain ⟨lv1, hlv1, e1⟩ := hc0 L lv hL hk hlv
            obtain ⟨lv2, hlv2, e2⟩ := ihl R (by simpa using hR) (fun i y P hy hP => hc (i + 1) y P (by simpa using hy) (by simpa using hP)) (L ++ fromP Q lo) lv1 (fun p hp => by
              rcases List.mem_append.1 hp with hp | hp
              · exact hk p hp
              · exact hkQ p (fromP_mem hp).1) hlv1
            refine ⟨lv2, hlv2, ?_⟩
            rw [List.foldl_cons, if_pos ⟨rfl, by show (nextK m L).size = 0; rw [nextK_few hL]; rfl⟩, e1, e2, List.map_cons, List.flatten_cons, List.append_assoc]
          · refine ⟨lv, hlv, ?_⟩
            have hL' : m < L.length := by omega
            rw [(told_more hL' _).1, (told_more hL' _).2]
            exact fold_stuck _ _ (fun y => if_neg (fun hh => nextK_many hk hL' hh.2)) _
    rw [throughS, visitS_of h ((withinK_iff h1).2 ⟨hne, hw⟩) (fun e => Bool.noConfusion e)]
    simp only [Bool.false_eq_true, if_false]
    refine fold _ _ (by rw [List.length_drop, List.length_drop, kidsT_length, hl]) (fun i x Q hx hQ => ?_) L lv hk hlv
    rw [List.getElem?_drop] at hx hQ
    have hc : kidN ks lo + i < cs.length := by have := (List.getElem?_eq_some_iff.1 hQ).1; omega
    rw [kidsT_get (List.getElem?_eq_getElem hc)] at hx
    cases hx
    exact ⟨hkey _ Q hQ, ih _ _ Q (List.getElem?_eq_getElem hc) hQ⟩

/-- Rows of pairs, one for each child, make one that rises. -/
theorem flatten_rising {ks : List ByteArray} {low high : ByteArray} {Qs : List (List (ByteArray × ByteArray))} (h1 : risingK ks = true) (h2 : ∀ x ∈ ks, keyIn x) (hw : ∀ x ∈ ks, withinS x low high = true) (hl : Qs.length ≤ ks.length + 1)
    (hq : ∀ (i : Nat) Q, Qs[i]? = some Q → Rising Q ∧ ∀ p ∈ Q, withinS p.1 (kidFrom low ks i) (kidTo high ks i) = true ∧ keyIn p.1) : Rising Qs.flatten ∧ ∀ p ∈ Qs.flatten, withinS p.1 low high = true ∧ keyIn p.1 := by
  have hr := rising_iff.1 h1
  have at_ : ∀ (i : Nat) Q, Qs[i]? = some Q → (Rising Q ∧ ∀ p ∈ Q, withinS p.1 (kidFrom low ks i) (kidTo high ks i) = true ∧ keyIn p.1) ∧ i ≤ ks.length := by
    intro i Q hQ
    have hi := (List.getElem?_eq_some_iff.1 hQ).1
    exact ⟨hq i Q hQ, by omega⟩
  have kf : ∀ (i : Nat) y, ks[i]? = some y → kidFrom low ks (i + 1) = y := fun i y hy => by
    unfold kidFrom
    rw [if_neg (by omega), Nat.add_sub_cancel, List.getD_eq_getElem?_getD, hy]
    rfl
  have kt : ∀ (i : Nat) y, ks[i]? = some y → kidTo high ks i = y := fun i y hy => by
    unfold kidTo
    rw [if_pos (List.getElem?_eq_some_iff.1 hy).1, List.getD_eq_getElem?_getD, hy]
    rfl
  refine ⟨List.pairwise_flatten.2 ⟨fun Q hQ => ?_, ?_⟩, fun p hp => ?_⟩
  · obtain ⟨i, hi⟩ := List.mem_iff_getElem?.1 hQ
    exact (at_ i Q hi).1.1
  · rw [List.pairwise_iff_getElem]
    intro i j hi hj hij x hx y hy
    obtain ⟨⟨_, hA⟩, _⟩ := at_ i _ (List.getElem?_eq_getElem hi)
    obtain ⟨⟨_, hB⟩, hj'⟩ := at_ j _ (List.getElem?_eq_getElem hj)
    obtain ⟨j, rfl⟩ : ∃ j', j = j' + 1 := ⟨j - 1, by omega⟩
    have hik : i < ks.length := by omega
    have hjk : j < ks.length := by omega
    have a1 := (hA x hx).1
    have b1 := (hB y hy).1
    rw [kt i _ (List.getElem?_eq_getElem hik)] at a1
    rw [kf j _ (List.getElem?_eq_getElem hjk)] at b1
    have a2 : ltB x.1 ks[i] = true := (within_high a1).resolve_left (by have := (h2 _ (List.getElem_mem hik)).1; omega)
    have b2 := within_low b1
    by_cases e : i = j
    · subst e
      exact ltB_le a2 b2
    · exact ltB_le (ltB_trans a2 (hr i j _ _ (by omega) (List.getElem?_eq_getElem hik) (List.getElem?_eq_getElem hjk))) b2
  · obtain ⟨Q, hQ, hpQ⟩ := List.mem_flatten.1 hp
    obtain ⟨i, hi⟩ := List.mem_iff_getElem?.1 hQ
    obtain ⟨⟨_, hA⟩, hik⟩ := at_ i Q hi
    obtain ⟨a1, a2⟩ := hA p hpQ
    refine ⟨within_of ?_ ?_, a2⟩
    · cases i with
      | zero => exact within_low a1
      | succ i =>
        have hik' : i < ks.length := by omega
        rw [kf i _ (List.getElem?_eq_getElem hik')] at a1
        exact not_below (within_low a1) (within_low (hw _ (List.getElem_mem hik')))
    · by_cases hk : i < ks.length
      · rw [kt i _ (List.getElem?_eq_getElem hk)] at a1
        have a3 : ltB p.1 ks[i] = true := (within_high a1).resolve_left (by have := (h2 _ (List.getElem_mem hk)).1; omega)
        rcases within_high (hw _ (List.getElem_mem hk)) with e | e
        · exact .inl e
        · exact .inr (ltB_trans a3 e)
      · have : kidTo high ks i = high := by unfold kidTo; rw [if_neg hk]
        rw [this] at a1
        exact within_high a1

/-- What is gathered below a block, tree or not. -/
def Gathers (lo low high : ByteArray) (X : List (ByteArray × ByteArray)) : Prop := Rising X ∧ ∀ p ∈ X, (withinS p.1 low high = true ∧ keyIn p.1) ∧ ltB p.1 lo = false

theorem gathers_nil (lo low high : ByteArray) : Gathers lo low high [] := ⟨List.Pairwise.nil, fun p hp => by simp at hp⟩

theorem throughS_any {H : Int → Bool → Option NodeS} (hH : Holding H) (lo : ByteArray) (m : Nat) : ∀ (k : Nat) (block : Int) (low high : ByteArray) (L : List (ByteArray × ByteArray)) (lv : Int), L.length ≤ m → (∀ p ∈ L, keyIn p.1) →
    (throughS H lo m k ⟨L.take m, nextK m L, lv⟩ block low high).1 = 81 ∨ ∃ X lv', throughS H lo m k ⟨L.take m, nextK m L, lv⟩ block low high = (0, ⟨(L ++ X).take m, nextK m (L ++ X), lv'⟩) ∧ Gathers lo low high X
  | 0, block, low, high, L, lv, hL, hk => .inl rfl
  | k + 1, block, low, high, L, lv, hL, hk => by
    rw [throughS]
    split
    · exact .inl rfl
    · rename_i n hv
      obtain ⟨l, ks, vs, cs⟩ := n
      obtain ⟨h, hw, _⟩ := visitS_some hv
      obtain ⟨h1, h2, h3, h4⟩ := hH _ _ _ h
      replace h1 : risingK ks = true := h1
      replace h2 : ∀ x ∈ ks, keyIn x := h2
      have hw2 := (withinK_iff h1).1 hw
      clear hw
      obtain ⟨hne, hw⟩ := hw2
      cases l with
      | true =>
        right
        replace h3 : vs.length = ks.length := h3 rfl
        refine ⟨fromP (ks.zip vs) lo, 8 - (k : Int), ?_, from_rising ?_ lo, fun p hp => ?_⟩
        · simp only [if_true]
          rw [gather_told _ L hL, leaf_from h1 h3]
        · have hm : (ks.zip vs).map Prod.fst = ks := List.map_fst_zip (by omega)
          have := rising_pair h1
          rw [← hm, List.pairwise_map] at this
          exact this
        · obtain ⟨ha, hb⟩ := fromP_mem hp
          have := (List.of_mem_zip ha).1
          exact ⟨⟨hw _ this, h2 _ this⟩, hb⟩
      | false =>
        simp only [Bool.false_eq_true, if_false]
        replace h4 : cs.length = ks.length + 1 := h4 rfl
        have fold : ∀ (l : List (Int × ByteArray × ByteArray)) (L : List (ByteArray × ByteArray)) (lv : Int), (∀ p ∈ L, keyIn p.1) →
            (l.foldl (fun r x => if r.1 = 0 ∧ r.2.next.size = 0 then throughS H lo m k r.2 x.1 x.2.1 x.2.2 else r) ((0 : Int), (⟨L.take m, nextK m L, lv⟩ : ScanS))).1 = 81 ∨ ∃ (Xs : List (List (ByteArray × ByteArray))) (lv' : Int), Xs.length = l.length ∧ (∀ (i : Nat) x X, l[i]? = some x → Xs[i]? = some X → Gathers lo x.2.1 x.2.2 X) ∧
              l.foldl (fun r x => if r.1 = 0 ∧ r.2.next.size = 0 then throughS H lo m k r.2 x.1 x.2.1 x.2.2 else r) ((0 : Int), (⟨L.take m, nextK m L, lv⟩ : ScanS)) = (0, ⟨(L ++ Xs.flatten).take m, nextK m (L ++ Xs.flatten), lv'⟩) := by
          intro l
          induction l with
          | nil => exact fun L lv hk => .inr ⟨[], lv, rfl, fun i x X hx => by simp at hx, by simp⟩
          | cons x l ihl =>
            intro L lv hk
            by_cases hL : L.length ≤ m
            · rw [List.foldl_cons, if_pos ⟨rfl, by show (nextK m L).size = 0; rw [nextK_few hL]; rfl⟩]
              rcases throughS_any hH lo m k x.1 x.2.1 x.2.2 L lv hL hk with e1 | ⟨X, lv1, e1, hX⟩
              · left
                rw [fold_stuck _ _ (fun y => if_neg (fun hh => by rw [e1] at hh; exact absurd hh.1 (by decide)))]
                exact e1
              · rw [e1]
                rcases ihl (L ++ X) lv1 (fun p hp => by
                  rcases List.mem_append.1 hp with hp | hp
                  · exact hk p hp
                  · exact (hX.2 p hp).1.2) with e2 | ⟨Xs, lv2, hl, hXs, e2⟩
                · exact .inl e2
                · refine .inr ⟨X :: Xs, lv2, by simp [hl], fun i y Y hy hY => ?_, by rw [e2, List.flatten_cons, List.append_assoc]⟩
                  cases i with
                  | zero => simp at hy hY; subst hy hY; exact hX
                  | succ i => exact hXs i y Y (by simpa using hy) (by simpa using hY)
            · have hL' : m < L.length := by omega
              have hf : ∀ N, (List.replicate N ([] : List (ByteArray × ByteArray))).flatten = [] := fun N => by induction N with | zero => rfl | succ N ih => rw [List.replicate_succ, List.flatten_cons, ih]; rfl
              refine .inr ⟨List.replicate (x :: l).length [], lv, List.length_replicate, fun i y Y hy hY => ?_, ?_⟩
              · have : Y = [] := (List.mem_replicate.1 (List.mem_of_getElem? hY)).2
                rw [this]
                exact gathers_nil _ _ _
              · rw [hf, List.append_nil]
                exact fold_stuck _ _ (fun y => if_neg (fun hh => nextK_many hk hL' hh.2)) _
        rcases fold ((kidsT low high ks cs).drop (kidN ks lo)) L lv hk with e | ⟨Xs, lv', hl, hX, e⟩
        · exact .inl e
        · right
          have hf : ∀ N, (List.replicate N ([] : List (ByteArray × ByteArray)) ++ Xs).flatten = Xs.flatten := fun N => by induction N with | zero => rfl | succ N ih => rw [List.replicate_succ, List.cons_append, List.flatten_cons, ih]; rfl
          have hb := kidN_le ks lo
          have each : ∀ (i : Nat) X, (List.replicate (kidN ks lo) ([] : List (ByteArray × ByteArray)) ++ Xs)[i]? = some X → Gathers lo (kidFrom low ks i) (kidTo high ks i) X := by
            intro i X hi
            by_cases hik : i < kidN ks lo
            · rw [List.getElem?_append_left (by simpa using hik)] at hi
              have : X = [] := (List.mem_replicate.1 (List.mem_of_getElem? hi)).2
              rw [this]
              exact gathers_nil _ _ _
            · rw [List.getElem?_append_right (by simpa using hik), List.length_replicate] at hi
              have hil := (List.getElem?_eq_some_iff.1 hi).1
              rw [hl, List.length_drop, kidsT_length] at hil
              have hic : i < cs.length := by omega
              have hx : ((kidsT low high ks cs).drop (kidN ks lo))[i - kidN ks lo]? = some (cs[i], kidFrom low ks i, kidTo high ks i) := by
                rw [List.getElem?_drop, show kidN ks lo + (i - kidN ks lo) = i by omega]
                exact kidsT_get (List.getElem?_eq_getElem hic)
              exact hX _ _ X hx hi
          have hr := flatten_rising (Qs := List.replicate (kidN ks lo) [] ++ Xs) h1 h2 hw (by rw [List.length_append, List.length_replicate, hl, List.length_drop, kidsT_length]; omega) (fun i Q hQ => ⟨(each i Q hQ).1, fun p hp => ((each i Q hQ).2 p hp).1⟩)
          rw [hf] at hr
          refine ⟨Xs.flatten, lv', e, hr.1, fun p hp => ⟨hr.2 p hp, ?_⟩⟩
          obtain ⟨X, hXm, hpX⟩ := List.mem_flatten.1 hp
          obtain ⟨i, hi⟩ := List.mem_iff_getElem?.1 hXm
          have hil := (List.getElem?_eq_some_iff.1 hi).1
          exact ((hX i _ X (List.getElem?_eq_getElem (by omega)) hi).2 p hpX).2

end Go.Proofs.Ytmldemgciidpbaa.Plain

namespace Go.Proofs.Ytmldemgciidpbaa
open Go.RowKit Plain
set_option linter.unusedVariables false

set_option maxHeartbeats 400000 in
theorem isNaN_any (s : ByteArray) (w : World) :
    Calls Try.prog 87 #[.string s] w fun e w' => e = .returned (.bool false) ∧ w = w' := by
  go_enter Try.func87, Try.ntmps87
  go_wp2
  go_ret
  exact ⟨ret_bool (by simp), rfl⟩

set_option maxHeartbeats 400000 in
theorem isNaN2_any (s : ByteArray) (w : World) :
    Calls Try.prog 96 #[.string s] w fun e w' => e = .returned (.bool false) ∧ w = w' := by
  go_enter Try.func96, Try.ntmps96
  go_wp2
  go_ret
  exact ⟨ret_bool (by simp), rfl⟩

set_option maxHeartbeats 400000 in
theorem less_any (s t : ByteArray) (w : World) :
    Calls Try.prog 86 #[.string s, .string t] w fun e w' => e = .returned (.bool (ltB s t)) ∧ w = w' := by
  go_enter Try.func86, Try.ntmps86
  go_wp2_with (go_at_call 96; refine (isNaN2_any _ _).mono ?_; rintro e w' ⟨rfl, rfl⟩)
  go_ret
  exact ⟨ret_bool rfl, rfl⟩

theorem isN_here {key x : ByteArray} {ks : List ByteArray} {j : Nat} (hf : findN key ks = j) (hx : ks[j]? = some x) : isN ks key = (x.toList == key.toList) := by
  rw [Bool.eq_iff_iff, isN_iff, hf, hx, str_beq]
  exact ⟨fun h => Option.some.inj h, fun h => by rw [h]⟩

theorem isN_off {key : ByteArray} {ks : List ByteArray} (hf : findN key ks = ks.length) : isN ks key = false := by
  rw [Bool.eq_false_iff]
  intro h
  rw [isN_iff, hf, List.getElem?_eq_none (Nat.le_refl _)] at h
  cases h

set_option maxRecDepth 20000 in
set_option maxHeartbeats 1000000 in
/-- BINARY SEARCH, of keys that rise. -/
theorem search_any (a : Option Addr) (c n : Nat) (ks : List ByteArray) (key : ByteArray) (w : World) (hn : n = ks.length) (hK : IsS w a c ks) (hr : risingK ks = true) (h9 : n ≤ 9) :
    Calls Try.prog 78 #[.slice a n c, .string key] w fun e w' => e = .returned (.tuple #[.int .i64 (findN key ks : Nat), .bool (isN ks key)]) ∧ w = w' := by
  have HK : Hid (IsS w a c ks) := hK
  have EK : Hid (n = ks.length) := hn
  have HR : Hid (risingK ks = true) := hr
  obtain ⟨f, hf⟩ : ∃ f, f = findN key ks := ⟨_, rfl⟩
  have HF : Hid (f = findN key ks) := hf
  have hfn : f ≤ n := by rw [hf, hn]; exact findN_le _ _
  obtain ⟨q, hq⟩ : ∃ q, q = isN ks key := ⟨_, rfl⟩
  have HQ : Hid (q = isN ks key) := hq
  rw [← hf, ← hq]
  clear hK hn hr hf hq
  go_enter Try.func78, Try.ntmps78
  go_wp2
  go_loop [7, 8] (fun u v => ∃ i j : Nat, u = .int .i64 i ∧ v = .int .i64 j ∧ i ≤ f ∧ f ≤ j ∧ j ≤ n) (fun u v => (intOf v).toNat - (intOf u).toNat)
  case atStart => exact ⟨0, n, rfl, rfl, by omega, by omega, by omega⟩
  case round =>
    obtain ⟨i, j, rfl, rfl, hif, hfj, hjn⟩ := hrel
    by_cases hlt : i < j
    · have hlt' : (i : Int) < j := by omega
      obtain ⟨h, hh⟩ : ∃ h, h = (i + j) / 2 := ⟨_, rfl⟩
      have hhi : i ≤ h := by omega
      have hhj : h < j := by omega
      have hhn : (h : Int) < n := by omega
      obtain ⟨x, hx⟩ : ∃ x, Hid (ks[h]? = some x) := ⟨_, List.getElem?_eq_getElem (by rw [← EK.out]; omega)⟩
      obtain ⟨b, o, rfl, hlb, hc, hxs⟩ := HK.out.2.2 h x hx.out
      have hmid : ((i : Int) + j) / 2 = (h : Int) := by omega
      clear hh
      cases hl : ltB x key with
      | true =>
        have hN : Hid (h < f) := by
          rw [HF.out]
          rcases Nat.lt_or_ge h (findN key ks) with g | g
          · exact g
          · rw [findN_behind HR.out hx.out g] at hl; cases hl
        have cL := less_any x key w
        rw [hl] at cL
        clear hl
        go_wp2_with (go_at_call 86; refine cL.mono ?_; rintro e w' ⟨rfl, rfl⟩)
        go_round
        case rel => exact ⟨h + 1, j, by go_num, rfl, hN.out, hfj, hjn⟩
        case measure => simp [intOf]; omega
      | false =>
        have hN : Hid (f ≤ h) := by
          rw [HF.out]
          rcases Nat.lt_or_ge h (findN key ks) with g | g
          · rw [findN_ahead hx.out g] at hl; cases hl
          · exact g
        have cL := less_any x key w
        rw [hl] at cL
        clear hl
        go_wp2_with (go_at_call 86; refine cL.mono ?_; rintro e w' ⟨rfl, rfl⟩)
        go_round
        case rel => exact ⟨i, h, rfl, rfl, hif, hN.out, by omega⟩
        case measure => simp [intOf]; omega
    · obtain rfl : i = f := by omega
      obtain rfl : i = j := by omega
      clear hlt hif hfj
      by_cases hin : (i : Int) < n
      · obtain ⟨x, hx⟩ : ∃ x, Hid (ks[i]? = some x) := ⟨_, List.getElem?_eq_getElem (by rw [← EK.out]; omega)⟩
        obtain ⟨b, o, rfl, hlb, hc, hxs⟩ := HK.out.2.2 i x hx.out
        have hQ' : Hid (q = (x.toList == key.toList)) := by show _ = _; rw [HQ.out]; exact isN_here HF.out.symm hx.out
        cases he : (x.toList == key.toList) with
        | true =>
          have hQ2 : Hid (q = true) := by show _ = _; rw [hQ'.out, he]
          go_wp2
          go_ret2
          exact ⟨by rw [hQ2.out]; rfl, rfl⟩
        | false =>
          have hQ2 : Hid (q = false) := by show _ = _; rw [hQ'.out, he]
          go_wp2_with (go_at_call 87; refine (isNaN_any _ _).mono ?_; rintro e w' ⟨rfl, rfl⟩)
          go_ret2
          exact ⟨by rw [hQ2.out]; rfl, rfl⟩
      · have hQ2 : Hid (q = false) := by show _ = _; rw [HQ.out]; exact isN_off (by rw [← HF.out, ← EK.out]; omega)
        go_wp2
        go_ret2
        exact ⟨by rw [hQ2.out]; rfl, rfl⟩

set_option maxHeartbeats 1000000 in
/-- FIND, at all nodes and keys. -/
theorem nodeFind_any (l : Bool) (a a' a'' : Option Addr) (c c' c'' n n' n'' : Nat) (ks vs : List ByteArray) (cs : List Int) (key : ByteArray) (w : World) (hn : n = ks.length) (hn' : n' = vs.length) (hn'' : n'' = cs.length) (hK : IsS w a c ks) (hV : IsS w a' c' vs) (hC : IsI w a'' c'' cs) :
    Calls Try.prog 62 #[.agg #[.bool l, .slice a n c, .slice a' n' c', .slice a'' n'' c''], .string key] w fun e w' => e = .returned (.tuple #[.int .i64 (findR l ks vs cs key), .bool (findI l ks vs cs key)]) ∧ Below w.heap.size w w' := by
  have hB0 : Below w.heap.size w (w.alloc (.cells #[.bool l, .slice a n c, .slice a' n' c', .slice a'' n'' c''] 32)) := (Below.refl _ _).alloc (Nat.le_refl _) _
  have hX := box4_new w (.bool l) (.slice a n c) (.slice a' n' c') (.slice a'' n'' c'') 32 rfl
  have cS := mayStand_any l a a' a'' c c' c'' n n' n'' ks vs cs _ hn hn' hn'' (hK.below hB0) (hV.below hB0) (hC.below hB0)
  obtain ⟨r, hr⟩ : ∃ r, r = findR l ks vs cs key := ⟨_, rfl⟩
  obtain ⟨q, hq⟩ : ∃ q, q = findI l ks vs cs key := ⟨_, rfl⟩
  rw [← hr, ← hq]
  cases hs : standsN l ks vs cs with
  | true =>
    have HR : r = (findN key ks : Nat) := by rw [hr, findR, if_pos hs]
    have HQ : q = isN ks key := by rw [hq, findI, hs, Bool.true_and]
    rw [hs] at cS
    obtain ⟨h9, _, hri, _⟩ := standsN_iff.1 hs
    have cB : ∀ V, Below w.heap.size w V → Calls Try.prog 78 #[.slice a n c, .string key] V fun e w' => e = .returned (.tuple #[.int .i64 r, .bool q]) ∧ V = w' := fun V h => by rw [HR, HQ]; exact search_any a c n ks key V hn (hK.below h) hri (by rw [hn]; exact h9)
    clear hr hq hs HR HQ hn hn' hn'' hK hV hC h9 hri
    go_enter Try.func62, Try.ntmps62
    go_wp2_with (first
      | (go_at_call 56; refine cS.mono ?_; rintro e w1 ⟨rfl, hb⟩; obtain ⟨⟨q0, q1, q2, q3⟩, -⟩ := hX.below hb; have hB1 := Below.tr hB0 hb; clear hb cS hX hB0)
      | (go_at_call 78; refine (cB _ hB1).mono ?_; rintro e w2 ⟨rfl, rfl⟩))
    go_ret2
    exact ⟨rfl, hB1⟩
  | false =>
    have HR : Hid (r = 0) := by show _ = _; rw [hr, findR, if_neg (by rw [hs]; simp)]
    have HQ : Hid (q = false) := by show _ = _; rw [hq, findI, hs, Bool.false_and]
    rw [hs] at cS
    clear hr hq hs hn hn' hn'' hK hV hC
    go_enter Try.func62, Try.ntmps62
    go_wp2_with (go_at_call 56; refine cS.mono ?_; rintro e w1 ⟨rfl, hb⟩; obtain ⟨⟨q0, q1, q2, q3⟩, -⟩ := hX.below hb; have hB1 := Below.tr hB0 hb)
    go_ret2
    exact ⟨by rw [HR.out, HQ.out]; rfl, hB1⟩

theorem kidR_find {l : Bool} {ks vs : List ByteArray} {cs : List Int} {key : ByteArray} (hl : l = false) : kidR l ks vs cs key = findR l ks vs cs key + (if findI l ks vs cs key = true then 1 else 0) := by
  subst hl
  unfold kidR findR findI
  cases hs : standsN false ks vs cs with
  | true =>
    obtain ⟨_, _, hri, _⟩ := standsN_iff.1 hs
    rw [if_pos ⟨rfl, rfl⟩, if_pos rfl, Bool.true_and, kidN_find hri]
    split <;> simp
  | false => simp

set_option maxHeartbeats 1000000 in
/-- KID, at all nodes and keys. -/
theorem nodeKid_any (l : Bool) (a a' a'' : Option Addr) (c c' c'' n n' n'' : Nat) (ks vs : List ByteArray) (cs : List Int) (key : ByteArray) (w : World) (hn : n = ks.length) (hn' : n' = vs.length) (hn'' : n'' = cs.length) (hK : IsS w a c ks) (hV : IsS w a' c' vs) (hC : IsI w a'' c'' cs) :
    Calls Try.prog 50 #[.agg #[.bool l, .slice a n c, .slice a' n' c', .slice a'' n'' c''], .string key] w fun e w' => e = .returned (.int .i64 (kidR l ks vs cs key)) ∧ Below w.heap.size w w' := by
  have hB0 : Below w.heap.size w (w.alloc (.cells #[.bool l, .slice a n c, .slice a' n' c', .slice a'' n'' c''] 32)) := (Below.refl _ _).alloc (Nat.le_refl _) _
  have hX := box4_new w (.bool l) (.slice a n c) (.slice a' n' c') (.slice a'' n'' c'') 32 rfl
  have cS := nodeFind_any l a a' a'' c c' c'' n n' n'' ks vs cs key _ hn hn' hn'' (hK.below hB0) (hV.below hB0) (hC.below hB0)
  obtain ⟨r, hr⟩ : ∃ r, r = kidR l ks vs cs key := ⟨_, rfl⟩
  rw [← hr]
  cases l with
  | true =>
    have HR : Hid (r = 0) := by show _ = _; rw [hr, kidR, if_neg (by simp)]
    clear hr cS hn hn' hn'' hK hV hC
    go_enter Try.func50, Try.ntmps50
    go_wp2
    go_ret
    exact ⟨ret_int HR.out.symm, hB0⟩
  | false =>
    rw [kidR_find rfl] at hr
    have hb0 : 0 ≤ findR false ks vs cs key ∧ findR false ks vs cs key ≤ n := by
      unfold findR
      have := findN_le key ks
      split <;> omega
    have hm : n ≤ 9223372036854775807 := by rw [hn]; exact hK.size
    have hb9 : findR false ks vs cs key ≤ 9 := by
      unfold findR
      have := findN_le key ks
      split
      · rename_i h; have := (standsN_iff.1 h).1; omega
      · omega
    generalize findR false ks vs cs key = f at cS hr hb0 hb9
    generalize findI false ks vs cs key = g at cS hr
    clear hn hn' hn'' hK hV hC
    cases g with
    | true =>
      have HR : Hid (r = f + 1) := by show _ = _; rw [hr]; rfl
      clear hr
      go_enter Try.func50, Try.ntmps50
      go_wp2_with (go_at_call 62; refine cS.mono ?_; rintro e w1 ⟨rfl, hb⟩; have hB1 := Below.tr hB0 hb)
      go_ret
      exact ⟨ret_int HR.out.symm, hB1⟩
    | false =>
      have HR : Hid (r = f) := by show _ = _; rw [hr]; simp
      clear hr
      go_enter Try.func50, Try.ntmps50
      go_wp2_with (go_at_call 62; refine cS.mono ?_; rintro e w1 ⟨rfl, hb⟩; have hB1 := Below.tr hB0 hb)
      go_ret
      exact ⟨ret_int HR.out.symm, hB1⟩

end Go.Proofs.Ytmldemgciidpbaa

/-
  A region whose operations come up in whatever order, by an invariant that speaks of the frame, too. Nothing of any program.
-/
import Derived.Test.YtmjhapkhfelbpaaAnylast
namespace Go.Proofs.Ytmjhapkhfelbpaa.Anyact
open Go Anylast
set_option linter.unusedVariables false

/-- What holds while they come up. -/
def Amid (ops : Array Oper) (a0 : Act) (V : Nat → Value → World → Prop) (S : Array Bool → Act → World → Prop) (listed : Array Bool) (a : Act) (w : World) : Prop :=
  (S listed a w) ∧
  (a.defers = a0.defers) ∧
  (a.tmps.size = a0.tmps.size) ∧
  (listed.size = ops.size) ∧
  (∀ (j : Nat) (oj : Oper), ops[j]? = some oj → listed.getD j false = true → ∀ e ∈ oj.after, Region.binds .any e = true → listed.getD e.on false = true) ∧
  (∀ d : Nat, (∀ (j : Nat) (oj : Oper), ops[j]? = some oj → oj.dst = some d → listed.getD j false = false) → a.tmps[d]? = a0.tmps[d]?) ∧
  (∀ (j : Nat) (oj : Oper) (d : Nat), ops[j]? = some oj → oj.dst = some d → listed.getD j false = true → ∃ v, a.tmps[d]? = some v ∧ V j v w)

theorem Amid.held {ops : Array Oper} {a0 : Act} {V : Nat → Value → World → Prop} {S : Array Bool → Act → World → Prop} {listed : Array Bool} {a : Act} {w : World} (h : Amid ops a0 V S listed a w) : S listed a w := h.1

theorem Amid.defers {ops : Array Oper} {a0 : Act} {V : Nat → Value → World → Prop} {S : Array Bool → Act → World → Prop} {listed : Array Bool} {a : Act} {w : World} (h : Amid ops a0 V S listed a w) : a.defers = a0.defers := h.2.1

theorem Amid.size {ops : Array Oper} {a0 : Act} {V : Nat → Value → World → Prop} {S : Array Bool → Act → World → Prop} {listed : Array Bool} {a : Act} {w : World} (h : Amid ops a0 V S listed a w) : a.tmps.size = a0.tmps.size := h.2.2.1

theorem Amid.lsize {ops : Array Oper} {a0 : Act} {V : Nat → Value → World → Prop} {S : Array Bool → Act → World → Prop} {listed : Array Bool} {a : Act} {w : World} (h : Amid ops a0 V S listed a w) : listed.size = ops.size := h.2.2.2.1

theorem Amid.closed {ops : Array Oper} {a0 : Act} {V : Nat → Value → World → Prop} {S : Array Bool → Act → World → Prop} {listed : Array Bool} {a : Act} {w : World} (h : Amid ops a0 V S listed a w) : ∀ (j : Nat) (oj : Oper), ops[j]? = some oj → listed.getD j false = true → ∀ e ∈ oj.after, Region.binds .any e = true → listed.getD e.on false = true := h.2.2.2.2.1

theorem Amid.same {ops : Array Oper} {a0 : Act} {V : Nat → Value → World → Prop} {S : Array Bool → Act → World → Prop} {listed : Array Bool} {a : Act} {w : World} (h : Amid ops a0 V S listed a w) : ∀ d : Nat, (∀ (j : Nat) (oj : Oper), ops[j]? = some oj → oj.dst = some d → listed.getD j false = false) → a.tmps[d]? = a0.tmps[d]? := h.2.2.2.2.2.1

theorem Amid.val {ops : Array Oper} {a0 : Act} {V : Nat → Value → World → Prop} {S : Array Bool → Act → World → Prop} {listed : Array Bool} {a : Act} {w : World} (h : Amid ops a0 V S listed a w) : ∀ (j : Nat) (oj : Oper) (d : Nat), ops[j]? = some oj → oj.dst = some d → listed.getD j false = true → ∃ v, a.tmps[d]? = some v ∧ V j v w := h.2.2.2.2.2.2

/-- THE RULE. -/
theorem any_inv {P : Program} {ops : Array Oper} {Q : Exit → Act → World → Prop} {a0 : Act} (V : Nat → Value → World → Prop) (S : Array Bool → Act → World → Prop) (R : World → World → Prop)
    (hfit : fit ops a0.tmps.size = true)
    (hmono : ∀ i v w w', R w w' → V i v w → V i v w')
    (hstep : ∀ i o, ops[i]? = some o → ∀ listed a w, i < listed.size → listed.getD i false = false → (∀ (j : Nat) (oj : Oper), ops[j]? = some oj → listed.getD j false = true → ∀ e ∈ oj.after, Region.binds .any e = true → listed.getD e.on false = true) → (∀ e ∈ o.after, Region.binds .any e = true → listed.getD e.on false = true) → S listed a w → a.defers = a0.defers → a.tmps.size = a0.tmps.size →
      (∀ j oj d, ops[j]? = some oj → oj.dst = some d → waits o j = true → ∃ v, a.tmps[d]? = some v ∧ V j v w) →
      (∀ d, free ops i d = true → a.tmps[d]? = a0.tmps[d]?) →
      wpOp P ops Q i (fun a' w' => ∃ v, a' = a.put o.dst v ∧ V i v w' ∧ S (listed.setIfInBounds i true) a' w' ∧ R w w') a w)
    (hdone : ∀ listed a w, (∀ i, i < ops.size → listed.getD i false = true) → S listed a w → a.defers = a0.defers → a.tmps.size = a0.tmps.size →
      (∀ d, (∀ (j : Nat) (oj : Oper), ops[j]? = some oj → oj.dst ≠ some d) → a.tmps[d]? = a0.tmps[d]?) →
      (∀ j oj d, ops[j]? = some oj → oj.dst = some d → ∃ v, a.tmps[d]? = some v ∧ V j v w) → Q .normal a w) :
    ∀ (fuel : Nat) (listed : Array Bool) (a : Act) (w : World), left listed = fuel → Amid ops a0 V S listed a w → wpAny P .any ops Q fuel listed a w := by
  have hend : ∀ (listed : Array Bool) (a : Act) (w : World), Amid ops a0 V S listed a w → Region.ready .any ops listed = [] → Q .normal a w := by
    intro listed a w hI hr
    have hall : ∀ i, i < ops.size → listed.getD i false = true := by
      intro i
      induction i using Nat.strongRecOn with
      | _ i ih =>
        intro hi
        have hi' : i < listed.size := by rw [hI.lsize]; exact hi
        cases hc : listed.getD i false with
        | true => rfl
        | false =>
          exfalso
          have hm : i ∈ Region.ready .any ops listed := by
            rw [mem_ready]
            refine ⟨by rw [getD_both hi' true false]; exact hc, _, Array.getElem?_eq_getElem hi, fun e he hbn => ?_⟩
            have hlt := (fit_spec hfit (Array.getElem?_eq_getElem hi)).1 e he hbn
            exact ih e.on hlt (by omega)
          rw [hr] at hm
          cases hm
    refine hdone listed a w hall hI.held hI.defers hI.size (fun d hd => hI.same d fun j oj hj hdj => absurd hdj (hd j oj hj)) fun j oj d hj hd => hI.val j oj d hj hd (hall j (Array.getElem?_eq_some_iff.1 hj).1)
  have hone : ∀ (listed : Array Bool) (a : Act) (w : World) (i : Nat), Amid ops a0 V S listed a w → i ∈ Region.ready .any ops listed → wpOp P ops Q i (Amid ops a0 V S (listed.setIfInBounds i true)) a w := by
    intro listed a w i hI hi
    obtain ⟨h0, o, ho, hall⟩ := mem_ready.1 hi
    have hlt : i < ops.size := (Array.getElem?_eq_some_iff.1 ho).1
    have hlt' : i < listed.size := by rw [hI.lsize]; exact hlt
    have h0' : listed.getD i false = false := by rw [getD_both hlt' false true]; exact h0
    obtain ⟨_, hdst⟩ := fit_spec hfit ho
    refine wpOp_mono ?_ (hstep i o ho listed a w hlt' h0' hI.closed hall hI.held hI.defers hI.size ?_ ?_)
    · rintro a' w' ⟨v, rfl, hV, hS, hR⟩
      refine ⟨hS, ?_, ?_, by rw [Array.size_setIfInBounds]; exact hI.lsize, ?_, ?_, ?_⟩
      · cases hd : o.dst <;> exact hI.defers
      · cases hd : o.dst with
        | none => exact hI.size
        | some d => simpa [Act.put] using hI.size
      · intro j oj hj hl e he hb
        rw [getD_set _ _ _ hlt']
        by_cases hji : j = i
        · subst hji
          rw [ho] at hj
          cases hj
          have := hall e he hb
          split
          · rfl
          · exact this
        · rw [getD_set _ _ _ hlt', if_neg hji] at hl
          split
          · rfl
          · exact hI.closed j oj hj hl e he hb
      · intro d hd
        have hne : o.dst ≠ some d := by
          intro e
          have := hd i o ho e
          rw [getD_set _ _ _ hlt', if_pos rfl] at this
          cases this
        have hs := hI.same d fun j oj hj hdj => by
          have h := hd j oj hj hdj
          rw [getD_set _ _ _ hlt'] at h
          split at h
          · cases h
          · exact h
        cases hdd : o.dst with
        | none => exact hs
        | some d' =>
          have : d' ≠ d := fun e => hne (by rw [hdd, e])
          simp only [Act.put]
          rw [Array.getElem?_setIfInBounds_ne this]
          exact hs
      · intro j oj d hj hd hl
        by_cases hji : j = i
        · subst hji
          rw [ho] at hj
          cases hj
          refine ⟨v, ?_, hV⟩
          rw [hd]
          have := (hdst d hd).1
          simp only [Act.put]
          rw [Array.getElem?_setIfInBounds_self_of_lt (by rw [hI.size]; exact this)]
        · rw [getD_set _ _ _ hlt', if_neg hji] at hl
          obtain ⟨u, hu, hVu⟩ := hI.val j oj d hj hd hl
          refine ⟨u, ?_, hmono j u _ _ hR hVu⟩
          cases hdd : o.dst with
          | none => exact hu
          | some d' =>
            have : d' ≠ d := fun e => hji ((hdst d' hdd).2 j oj hj (by rw [hd, e]))
            simp only [Act.put]
            rw [Array.getElem?_setIfInBounds_ne this]
            exact hu
    · intro j oj d hj hd hwt
      obtain ⟨e, he, hb, rfl⟩ := waits_spec.1 hwt
      exact hI.val _ oj d hj hd (hall e he hb)
    · intro d hd
      refine hI.same d fun j oj hj hdj => ?_
      cases hc : listed.getD j false with
      | false => rfl
      | true =>
        exfalso
        rcases free_spec hd hj hdj with hji | ⟨e, he, hb, hei⟩
        · subst hji
          rw [h0'] at hc
          cases hc
        · have := hI.closed j oj hj hc e he hb
          rw [hei, h0'] at this
          cases this
  intro fuel
  induction fuel with
  | zero =>
    intro listed a w hl hI
    have hr : Region.ready .any ops listed = [] := by
      cases hr : Region.ready .any ops listed with
      | nil => rfl
      | cons i r =>
        exfalso
        have hi : i ∈ Region.ready .any ops listed := by rw [hr]; exact List.mem_cons_self
        obtain ⟨h0, o, ho, _⟩ := mem_ready.1 hi
        have hlt : i < listed.size := by rw [hI.lsize]; exact (Array.getElem?_eq_some_iff.1 ho).1
        have := left_set listed i hlt h0
        omega
    exact ⟨hr, hend listed a w hI hr⟩
  | succ fuel ih =>
    intro listed a w hl hI
    refine ⟨hend listed a w hI, fun i hi => ?_⟩
    obtain ⟨h0, o, ho, _⟩ := mem_ready.1 hi
    have hlt : i < listed.size := by rw [hI.lsize]; exact (Array.getElem?_eq_some_iff.1 ho).1
    have hls := left_set listed i hlt h0
    exact wpOp_mono (fun a' w' h' => ih _ a' w' (by omega) h') (hone listed a w i hI hi)

/-- THE RULE, of a region. -/
theorem region_inv {P : Program} {ops : Array Oper} {Q : Exit → Act → World → Prop} {id : Nat} {a0 : Act} {w0 : World} (hm : P.follows .mixedOrders = true) (V : Nat → Value → World → Prop) (S : Array Bool → Act → World → Prop) (R : World → World → Prop)
    (hfit : fit ops a0.tmps.size = true)
    (hmono : ∀ i v w w', R w w' → V i v w → V i v w')
    (hS : S (Array.replicate ops.size false) a0 w0.drew)
    (hstep : ∀ i o, ops[i]? = some o → ∀ listed a w, i < listed.size → listed.getD i false = false → (∀ (j : Nat) (oj : Oper), ops[j]? = some oj → listed.getD j false = true → ∀ e ∈ oj.after, Region.binds .any e = true → listed.getD e.on false = true) → (∀ e ∈ o.after, Region.binds .any e = true → listed.getD e.on false = true) → S listed a w → a.defers = a0.defers → a.tmps.size = a0.tmps.size →
      (∀ j oj d, ops[j]? = some oj → oj.dst = some d → waits o j = true → ∃ v, a.tmps[d]? = some v ∧ V j v w) →
      (∀ d, free ops i d = true → a.tmps[d]? = a0.tmps[d]?) →
      wpOp P ops Q i (fun a' w' => ∃ v, a' = a.put o.dst v ∧ V i v w' ∧ S (listed.setIfInBounds i true) a' w' ∧ R w w') a w)
    (hdone : ∀ listed a w, (∀ i, i < ops.size → listed.getD i false = true) → S listed a w → a.defers = a0.defers → a.tmps.size = a0.tmps.size →
      (∀ d, (∀ (j : Nat) (oj : Oper), ops[j]? = some oj → oj.dst ≠ some d) → a.tmps[d]? = a0.tmps[d]?) →
      (∀ j oj d, ops[j]? = some oj → oj.dst = some d → ∃ v, a.tmps[d]? = some v ∧ V j v w) → Q .normal a w) :
    (Code.region id ops true).wp P Q a0 w0 := by
  refine wp_region_any hm (any_inv V S R hfit hmono hstep hdone ops.size (Array.replicate ops.size false) a0 _ ?_ ?_)
  · unfold left
    rw [Array.toList_replicate, List.countP_replicate]
    simp
  · have hf : ∀ j, (Array.replicate ops.size false).getD j false = false := by
      intro j
      simp only [Array.getD_eq_getD_getElem?, Array.getElem?_replicate]
      split <;> rfl
    refine ⟨hS, rfl, rfl, by simp, ?_, fun d _ => rfl, ?_⟩
    · intro j oj _ hl
      rw [hf] at hl
      cases hl
    · intro j oj d _ _ hl
      rw [hf] at hl
      cases hl

/-- THE RULE, of a region whose last operation waits for all others: one invariant ahead of it, another one behind it. -/
theorem region_act {P : Program} {ops : Array Oper} {Q : Exit → Act → World → Prop} {id : Nat} {a0 : Act} {w0 : World} (hm : P.follows .mixedOrders = true) (l : Nat) (V : Nat → Value → World → Prop) (S : World → Prop) (T : Act → World → Prop) (R : World → World → Prop)
    (hfit : fit ops a0.tmps.size = true) (hlast : lasts ops l = true)
    (hmono : ∀ i v w w', R w w' → V i v w → V i v w')
    (hS : S w0.drew)
    (hstep : ∀ i o, ops[i]? = some o → ∀ a w, S w → a.defers = a0.defers → a.tmps.size = a0.tmps.size →
      (∀ j oj d, ops[j]? = some oj → oj.dst = some d → waits o j = true → ∃ v, a.tmps[d]? = some v ∧ V j v w) →
      (∀ d, free ops i d = true → a.tmps[d]? = a0.tmps[d]?) →
      wpOp P ops Q i (fun a' w' => ∃ v, a' = a.put o.dst v ∧ V i v w' ∧ (if i = l then T a' w' else S w') ∧ R w w') a w)
    (hdone : ∀ a w, T a w → a.defers = a0.defers → a.tmps.size = a0.tmps.size →
      (∀ d, (∀ (j : Nat) (oj : Oper), ops[j]? = some oj → oj.dst ≠ some d) → a.tmps[d]? = a0.tmps[d]?) →
      (∀ j oj d, ops[j]? = some oj → oj.dst = some d → ∃ v, a.tmps[d]? = some v ∧ V j v w) → Q .normal a w) :
    (Code.region id ops true).wp P Q a0 w0 := by
  obtain ⟨ol, hol, hwl⟩ := lasts_spec hlast
  have hll : l < ops.size := (Array.getElem?_eq_some_iff.1 hol).1
  refine region_inv hm V (fun listed a w => if listed.getD l false = true then T a w else S w) R hfit hmono ?_ ?_ ?_
  · have hf : (Array.replicate ops.size false).getD l false = false := by
      simp only [Array.getD_eq_getD_getElem?, Array.getElem?_replicate]
      split <;> rfl
    simp only [hf, Bool.false_eq_true, if_false]
    exact hS
  · intro i o ho listed a w hil h0 hcl _ hs hdf hsz hdep hsame
    have hnl : listed.getD l false = false := by
      by_cases hi : i = l
      · rw [← hi]; exact h0
      · cases hc : listed.getD l false with
        | false => rfl
        | true =>
          obtain ⟨e, he, hb, hei⟩ := hwl i (Array.getElem?_eq_some_iff.1 ho).1 hi
          have := hcl l ol hol hc e he hb
          rw [hei, h0] at this
          cases this
    simp only [hnl, Bool.false_eq_true, if_false] at hs
    refine wpOp_mono ?_ (hstep i o ho a w hs hdf hsz hdep hsame)
    rintro a' w' ⟨v, h1, h2, h3, h4⟩
    refine ⟨v, h1, h2, ?_, h4⟩
    show if _ then _ else _
    rw [getD_set _ _ _ hil]
    by_cases hi : l = i
    · rw [if_pos hi, if_pos rfl]
      rw [if_pos hi.symm] at h3
      exact h3
    · rw [if_neg hi, if_neg (by rw [hnl]; decide)]
      rw [if_neg (fun h => hi h.symm)] at h3
      exact h3
  · intro listed a w hall hs
    rw [if_pos (hall l hll)] at hs
    exact hdone a w hs

/-- One operation that runs to its end. -/
theorem op_value {P : Program} {ops : Array Oper} {Q : Exit → Act → World → Prop} {i : Nat} {o : Oper} {a : Act} {w w' : World} {v : Value} {V : Nat → Value → World → Prop} {S : Act → World → Prop} {R : World → World → Prop} (hi : ops[i]? = some o) (hw : Region.wanted o (yielded ops a.tmps) = true)
    (hr : (execOp a.eval o).run P w = .ok (.value v) w') (hV : V i v w') (hS : S (a.put o.dst v) w') (hR : R w w') :
    wpOp P ops Q i (fun a' w' => ∃ v, a' = a.put o.dst v ∧ V i v w' ∧ S a' w' ∧ R w w') a w := by
  unfold wpOp
  simp only [hi, hw, if_true]
  refine .inl ?_
  unfold Oper.wp
  rw [hr]
  exact ⟨v, rfl, hV, hS, hR⟩

/-- One call, by its contract. -/
theorem op_call {P : Program} {ops : Array Oper} {Q : Exit → Act → World → Prop} {i : Nat} {o : Oper} {a : Act} {w w' : World} {f : FuncId} {args : Array Value} {V : Nat → Value → World → Prop} {S : Act → World → Prop} {R : World → World → Prop} (hi : ops[i]? = some o) (hw : Region.wanted o (yielded ops a.tmps) = true)
    (hr : (execOp a.eval o).run P w = .ok (.enter f args) w')
    (hc : Calls P f args w' fun e w'' => ∃ v, e = .returned v ∧ V i v w'' ∧ S (a.put o.dst v) w'' ∧ R w w'') :
    wpOp P ops Q i (fun a' w' => ∃ v, a' = a.put o.dst v ∧ V i v w' ∧ S a' w' ∧ R w w') a w := by
  unfold wpOp
  simp only [hi, hw, if_true]
  refine .inl ?_
  unfold Oper.wp
  rw [hr]
  refine Calls.mono hc ?_
  rintro e w'' ⟨v, rfl, hV, hS, hR⟩
  exact ⟨v, rfl, hV, hS, hR⟩

/-- One operation that yields nothing. -/
theorem op_skip {P : Program} {ops : Array Oper} {Q : Exit → Act → World → Prop} {i : Nat} {o : Oper} {a : Act} {w w' : World} {V : Nat → Value → World → Prop} {S : Act → World → Prop} {R : World → World → Prop} (hi : ops[i]? = some o) (hw : Region.wanted o (yielded ops a.tmps) = true) (hd : o.dst = none)
    (hr : (execOp a.eval o).run P w = .ok .skip w') (hV : V i undef w') (hS : S a w') (hR : R w w') :
    wpOp P ops Q i (fun a' w' => ∃ v, a' = a.put o.dst v ∧ V i v w' ∧ S a' w' ∧ R w w') a w := by
  have hp : a.put o.dst undef = a := by rw [hd]; rfl
  unfold wpOp
  simp only [hi, hw, if_true]
  refine .inl ?_
  unfold Oper.wp
  rw [hr]
  exact ⟨undef, rfl, hV, by rw [hp]; exact hS, hR⟩

end Go.Proofs.Ytmjhapkhfelbpaa.Anyact

/-
  Texts laid together: Anylast Anychain Anyround RunTwin TaskDo RunEnded RunMendP RunMended BitsPlain BitsMem Anyheld DagFree Put Mem SuperMem DagThose DagNeeds DagRight RunSettle RunNewW.
-/
import Derived.Orders
import Derived.WalkKit
import Derived.Below
import Derived.RangeFuncCalls
import Derived.OrdersIn
import Derived.Test.YtdpljpjbomhccaaRtA
import Derived.Lib.Strings
import Derived.Deep.Grids
import Derived.Test.YtdpljpjbomhccaaRows
import Derived.Deep.RegionHeld3
import Derived.Lib.AppendZeros
import Derived.WalkSpells
import Derived.WalkLawsBesides
import Derived.Handy
import Derived.Deep.OwnRows
import Derived.Lib.SmallJoins
import Derived.OneCell
import Derived.Laws.EntriesVeiled
import Derived.Maps.RangeWalk
namespace Go.Proofs.Ytdpljpjbomhccaa.Anylast
open Go
def fit (ops : Array Oper) (n : Nat) : Bool :=
 (List.range ops.size).all fun i => match ops[i]? with
  | none => true
  | some o => (o.after.toList.all fun e => !Region.binds .any e || decide (e.on < i)) &&
   match o.dst with
   | none => true
   | some d => decide (d < n) && (List.range ops.size).all fun j => match ops[j]? with
    | none => true
    | some oj => oj.dst != some d || j == i
theorem fit_spec {ops : Array Oper} {n : Nat} (h : fit ops n = true) {i : Nat} {o : Oper} (hi : ops[i]? = some o) :
  (∀ e ∈ o.after, Region.binds .any e = true → e.on < i) ∧ ∀ d, o.dst = some d → d < n ∧ ∀ j oj, ops[j]? = some oj → oj.dst = some d → j = i := by
 have hlt : i < ops.size := (Array.getElem?_eq_some_iff.1 hi).1
 unfold fit at h
 rw [List.all_eq_true] at h
 have h1 := h i (List.mem_range.2 hlt)
 rw [hi] at h1
 simp only [Bool.and_eq_true, List.all_eq_true] at h1
 obtain ⟨ha, hb⟩ := h1
 refine ⟨fun e he hbn => ?_, fun d hd => ?_⟩
 ·
  have h3 := ha e (Array.mem_toList_iff.2 he)
  rw [hbn] at h3
  simpa using h3
 rw [hd] at hb
 simp only [Bool.and_eq_true, List.all_eq_true, decide_eq_true_eq] at hb
 refine ⟨hb.1, fun j oj hj hdj => ?_⟩
 have hjlt : j < ops.size := (Array.getElem?_eq_some_iff.1 hj).1
 have h2 := hb.2 j (List.mem_range.2 hjlt)
 rw [hj] at h2
 simp only [hdj] at h2
 simpa using h2
def waits (o : Oper) (j : Nat) : Bool := o.after.toList.any fun e => Region.binds .any e && e.on == j
theorem waits_spec {o : Oper} {j : Nat} : waits o j = true ↔ ∃ e ∈ o.after, Region.binds .any e = true ∧ e.on = j := by
 unfold waits
 rw [List.any_eq_true]
 constructor
 ·
  rintro ⟨e, he, h⟩
  rw [Bool.and_eq_true, beq_iff_eq] at h
  exact ⟨e, Array.mem_toList_iff.1 he, h.1, h.2⟩
 ·
  rintro ⟨e, he, h1, h2⟩
  exact ⟨e, Array.mem_toList_iff.2 he, by rw [Bool.and_eq_true, beq_iff_eq]; exact ⟨h1, h2⟩⟩
def free (ops : Array Oper) (i d : Nat) : Bool :=
 (List.range ops.size).all fun j => match ops[j]? with
  | none => true
  | some oj => oj.dst != some d || j == i || waits oj i
theorem free_spec {ops : Array Oper} {i d : Nat} (h : free ops i d = true) {j : Nat} {oj : Oper} (hj : ops[j]? = some oj) (hd : oj.dst = some d) : j = i ∨ ∃ e ∈ oj.after, Region.binds .any e = true ∧ e.on = i := by
 unfold free at h
 rw [List.all_eq_true] at h
 have h1 := h j (List.mem_range.2 (Array.getElem?_eq_some_iff.1 hj).1)
 rw [hj] at h1
 simp only [hd] at h1
 rw [← waits_spec]
 simpa using h1
def Amid (ops : Array Oper) (a0 : Act) (V : Nat → Value → World → Prop) (S : Array Bool → World → Prop) (listed : Array Bool) (a : Act) (w : World) : Prop :=
 (S listed w) ∧
 (a.defers = a0.defers) ∧
 (a.tmps.size = a0.tmps.size) ∧
 (listed.size = ops.size) ∧
 (∀ (j : Nat) (oj : Oper), ops[j]? = some oj → listed.getD j false = true → ∀ e ∈ oj.after, Region.binds .any e = true → listed.getD e.on false = true) ∧
 (∀ d : Nat, (∀ (j : Nat) (oj : Oper), ops[j]? = some oj → oj.dst = some d → listed.getD j false = false) → a.tmps[d]? = a0.tmps[d]?) ∧
 (∀ (j : Nat) (oj : Oper) (d : Nat), ops[j]? = some oj → oj.dst = some d → listed.getD j false = true → ∃ v, a.tmps[d]? = some v ∧ V j v w)
theorem Amid.held {ops : Array Oper} {a0 : Act} {V : Nat → Value → World → Prop} {S : Array Bool → World → Prop} {listed : Array Bool} {a : Act} {w : World} (h : Amid ops a0 V S listed a w) : S listed w := h.1
theorem Amid.defers {ops : Array Oper} {a0 : Act} {V : Nat → Value → World → Prop} {S : Array Bool → World → Prop} {listed : Array Bool} {a : Act} {w : World} (h : Amid ops a0 V S listed a w) : a.defers = a0.defers := h.2.1
theorem Amid.size {ops : Array Oper} {a0 : Act} {V : Nat → Value → World → Prop} {S : Array Bool → World → Prop} {listed : Array Bool} {a : Act} {w : World} (h : Amid ops a0 V S listed a w) : a.tmps.size = a0.tmps.size := h.2.2.1
theorem Amid.lsize {ops : Array Oper} {a0 : Act} {V : Nat → Value → World → Prop} {S : Array Bool → World → Prop} {listed : Array Bool} {a : Act} {w : World} (h : Amid ops a0 V S listed a w) : listed.size = ops.size := h.2.2.2.1
theorem Amid.closed {ops : Array Oper} {a0 : Act} {V : Nat → Value → World → Prop} {S : Array Bool → World → Prop} {listed : Array Bool} {a : Act} {w : World} (h : Amid ops a0 V S listed a w) : ∀ (j : Nat) (oj : Oper), ops[j]? = some oj → listed.getD j false = true → ∀ e ∈ oj.after, Region.binds .any e = true → listed.getD e.on false = true := h.2.2.2.2.1
theorem Amid.same {ops : Array Oper} {a0 : Act} {V : Nat → Value → World → Prop} {S : Array Bool → World → Prop} {listed : Array Bool} {a : Act} {w : World} (h : Amid ops a0 V S listed a w) : ∀ d : Nat, (∀ (j : Nat) (oj : Oper), ops[j]? = some oj → oj.dst = some d → listed.getD j false = false) → a.tmps[d]? = a0.tmps[d]? := h.2.2.2.2.2.1
theorem Amid.val {ops : Array Oper} {a0 : Act} {V : Nat → Value → World → Prop} {S : Array Bool → World → Prop} {listed : Array Bool} {a : Act} {w : World} (h : Amid ops a0 V S listed a w) : ∀ (j : Nat) (oj : Oper) (d : Nat), ops[j]? = some oj → oj.dst = some d → listed.getD j false = true → ∃ v, a.tmps[d]? = some v ∧ V j v w := h.2.2.2.2.2.2
theorem getD_set (listed : Array Bool) (i j : Nat) (hi : i < listed.size) (b : Bool) : (listed.setIfInBounds i true).getD j b = if j = i then true else listed.getD j b := by
 simp only [Array.getD_eq_getD_getElem?, Array.getElem?_setIfInBounds]
 by_cases h : i = j
 ·
  subst h; simp [hi]
 ·
  rw [if_neg h, if_neg (fun e => h e.symm)]
def left (listed : Array Bool) : Nat := listed.toList.countP (fun b => !b)
theorem left_set (listed : Array Bool) (i : Nat) (hi : i < listed.size) (h : listed.getD i true = false) : left (listed.setIfInBounds i true) + 1 = left listed := by
 unfold left
 rw [Array.toList_setIfInBounds]
 have hl : i < listed.toList.length := by simpa using hi
 have hv : listed.toList[i] = false := by
  simp only [Array.getD_eq_getD_getElem?, Array.getElem?_eq_getElem hi, Option.getD_some] at h
  simpa using h
 have hpos : 0 < listed.toList.countP (fun b => !b) := by
  rw [List.countP_pos_iff]
  exact ⟨false, by rw [← hv]; exact List.getElem_mem hl, rfl⟩
 rw [List.countP_set hl, hv]
 have e1 : (!false) = true := rfl
 have e2 : (!true) = false := rfl
 simp only [e1, e2, if_true, Bool.false_eq_true, if_false, Nat.add_zero]
 omega
theorem getD_both {listed : Array Bool} {i : Nat} (hi : i < listed.size) (b c : Bool) : listed.getD i b = listed.getD i c := by
 simp [Array.getD_eq_getD_getElem?, hi]
theorem any_inv {P : Program} {ops : Array Oper} {Q : Exit → Act → World → Prop} {a0 : Act} (V : Nat → Value → World → Prop) (S : Array Bool → World → Prop) (R : World → World → Prop)
  (hfit : fit ops a0.tmps.size = true)
  (hmono : ∀ i v w w', R w w' → V i v w → V i v w')
  (hstep : ∀ i o, ops[i]? = some o → ∀ listed a w, i < listed.size → listed.getD i false = false → (∀ (j : Nat) (oj : Oper), ops[j]? = some oj → listed.getD j false = true → ∀ e ∈ oj.after, Region.binds .any e = true → listed.getD e.on false = true) → (∀ e ∈ o.after, Region.binds .any e = true → listed.getD e.on false = true) → S listed w → a.defers = a0.defers → a.tmps.size = a0.tmps.size →
   (∀ j oj d, ops[j]? = some oj → oj.dst = some d → waits o j = true → ∃ v, a.tmps[d]? = some v ∧ V j v w) →
   (∀ d, free ops i d = true → a.tmps[d]? = a0.tmps[d]?) →
   wpOp P ops Q i (fun a' w' => ∃ v, a' = a.put o.dst v ∧ V i v w' ∧ S (listed.setIfInBounds i true) w' ∧ R w w') a w)
  (hdone : ∀ listed a w, (∀ i, i < ops.size → listed.getD i false = true) → S listed w → a.defers = a0.defers → a.tmps.size = a0.tmps.size →
   (∀ d, (∀ (j : Nat) (oj : Oper), ops[j]? = some oj → oj.dst ≠ some d) → a.tmps[d]? = a0.tmps[d]?) →
   (∀ j oj d, ops[j]? = some oj → oj.dst = some d → ∃ v, a.tmps[d]? = some v ∧ V j v w) → Q .normal a w) :
  ∀ (fuel : Nat) (listed : Array Bool) (a : Act) (w : World), left listed = fuel → Amid ops a0 V S listed a w → wpAny P .any ops Q fuel listed a w := by
 have hend : ∀ (listed : Array Bool) (a : Act) (w : World), Amid ops a0 V S listed a w → Region.ready .any ops listed = [] → Q .normal a w := by
  intro listed a w hI hr
  have hall : ∀ i, i < ops.size → listed.getD i false = true := by
   intro i
   induction i using Nat.strongRecOn with
   | _ i ih =>
    intro hi
    have hi' : i < listed.size := by rw [hI.lsize]; exact hi
    cases hc : listed.getD i false with
    | true => rfl
    | false =>
     exfalso
     have hm : i ∈ Region.ready .any ops listed := by
      rw [mem_ready]
      refine ⟨by rw [getD_both hi' true false]; exact hc, _, Array.getElem?_eq_getElem hi, fun e he hbn => ?_⟩
      have hlt := (fit_spec hfit (Array.getElem?_eq_getElem hi)).1 e he hbn
      exact ih e.on hlt (by omega)
     rw [hr] at hm
     cases hm
  refine hdone listed a w hall hI.held hI.defers hI.size (fun d hd => hI.same d fun j oj hj hdj => absurd hdj (hd j oj hj)) fun j oj d hj hd => hI.val j oj d hj hd (hall j (Array.getElem?_eq_some_iff.1 hj).1)
 have hone : ∀ (listed : Array Bool) (a : Act) (w : World) (i : Nat), Amid ops a0 V S listed a w → i ∈ Region.ready .any ops listed → wpOp P ops Q i (Amid ops a0 V S (listed.setIfInBounds i true)) a w := by
  intro listed a w i hI hi
  obtain ⟨h0, o, ho, hall⟩ := mem_ready.1 hi
  have hlt : i < ops.size := (Array.getElem?_eq_some_iff.1 ho).1
  have hlt' : i < listed.size := by rw [hI.lsize]; exact hlt
  have h0' : listed.getD i false = false := by rw [getD_both hlt' false true]; exact h0
  obtain ⟨_, hdst⟩ := fit_spec hfit ho
  refine wpOp_mono ?_ (hstep i o ho listed a w hlt' h0' hI.closed hall hI.held hI.defers hI.size ?_ ?_)
  ·
   rintro a' w' ⟨v, rfl, hV, hS, hR⟩
   refine ⟨hS, ?_, ?_, by rw [Array.size_setIfInBounds]; exact hI.lsize, ?_, ?_, ?_⟩
   ·
    cases hd : o.dst <;> exact hI.defers
   ·
    cases hd : o.dst with
    | none => exact hI.size
    | some d => simpa [Act.put] using hI.size
   ·
    intro j oj hj hl e he hb
    rw [getD_set _ _ _ hlt']
    by_cases hji : j = i
    ·
     subst hji
     rw [ho] at hj
     cases hj
     have := hall e he hb
     split
     ·
      rfl
     ·
      exact this
    ·
     rw [getD_set _ _ _ hlt', if_neg hji] at hl
     split
     ·
      rfl
     ·
      exact hI.closed j oj hj hl e he hb
   ·
    intro d hd
    have hne : o.dst ≠ some d := by
     intro e
     have := hd i o ho e
     rw [getD_set _ _ _ hlt', if_pos rfl] at this
     cases this
    have hs := hI.same d fun j oj hj hdj => by
     have h := hd j oj hj hdj
     rw [getD_set _ _ _ hlt'] at h
     split at h
     ·
      cases h
     ·
      exact h
    cases hdd : o.dst with
    | none => exact hs
    | some d' =>
     have : d' ≠ d := fun e => hne (by rw [hdd, e])
     simp only [Act.put]
     rw [Array.getElem?_setIfInBounds_ne this]
     exact hs
   ·
    intro j oj d hj hd hl
    by_cases hji : j = i
    ·
     subst hji
     rw [ho] at hj
     cases hj
     refine ⟨v, ?_, hV⟩
     rw [hd]
     have := (hdst d hd).1
     simp only [Act.put]
     rw [Array.getElem?_setIfInBounds_self_of_lt (by rw [hI.size]; exact this)]
    ·
     rw [getD_set _ _ _ hlt', if_neg hji] at hl
     obtain ⟨u, hu, hVu⟩ := hI.val j oj d hj hd hl
     refine ⟨u, ?_, hmono j u _ _ hR hVu⟩
     cases hdd : o.dst with
     | none => exact hu
     | some d' =>
      have : d' ≠ d := fun e => hji ((hdst d' hdd).2 j oj hj (by rw [hd, e]))
      simp only [Act.put]
      rw [Array.getElem?_setIfInBounds_ne this]
      exact hu
  ·
   intro j oj d hj hd hwt
   obtain ⟨e, he, hb, rfl⟩ := waits_spec.1 hwt
   exact hI.val _ oj d hj hd (hall e he hb)
  ·
   intro d hd
   refine hI.same d fun j oj hj hdj => ?_
   cases hc : listed.getD j false with
   | false => rfl
   | true =>
    exfalso
    rcases free_spec hd hj hdj with hji | ⟨e, he, hb, hei⟩
    ·
     subst hji
     rw [h0'] at hc
     cases hc
    ·
     have := hI.closed j oj hj hc e he hb
     rw [hei, h0'] at this
     cases this
 intro fuel
 induction fuel with
 | zero =>
  intro listed a w hl hI
  have hr : Region.ready .any ops listed = [] := by
   cases hr : Region.ready .any ops listed with
   | nil => rfl
   | cons i r =>
    exfalso
    have hi : i ∈ Region.ready .any ops listed := by rw [hr]; exact List.mem_cons_self
    obtain ⟨h0, o, ho, _⟩ := mem_ready.1 hi
    have hlt : i < listed.size := by rw [hI.lsize]; exact (Array.getElem?_eq_some_iff.1 ho).1
    have := left_set listed i hlt h0
    omega
  exact ⟨hr, hend listed a w hI hr⟩
 | succ fuel ih =>
  intro listed a w hl hI
  refine ⟨hend listed a w hI, fun i hi => ?_⟩
  obtain ⟨h0, o, ho, _⟩ := mem_ready.1 hi
  have hlt : i < listed.size := by rw [hI.lsize]; exact (Array.getElem?_eq_some_iff.1 ho).1
  have hls := left_set listed i hlt h0
  exact wpOp_mono (fun a' w' h' => ih _ a' w' (by omega) h') (hone listed a w i hI hi)
theorem inv_any {P : Program} {ops : Array Oper} {Q : Exit → Act → World → Prop} {a0 : Act} {w0 : World} (V : Nat → Value → World → Prop) (S : Array Bool → World → Prop) (R : World → World → Prop)
  (hfit : fit ops a0.tmps.size = true)
  (hmono : ∀ i v w w', R w w' → V i v w → V i v w')
  (hS : S (Array.replicate ops.size false) w0.drew)
  (hstep : ∀ i o, ops[i]? = some o → ∀ listed a w, i < listed.size → listed.getD i false = false → (∀ (j : Nat) (oj : Oper), ops[j]? = some oj → listed.getD j false = true → ∀ e ∈ oj.after, Region.binds .any e = true → listed.getD e.on false = true) → (∀ e ∈ o.after, Region.binds .any e = true → listed.getD e.on false = true) → S listed w → a.defers = a0.defers → a.tmps.size = a0.tmps.size →
   (∀ j oj d, ops[j]? = some oj → oj.dst = some d → waits o j = true → ∃ v, a.tmps[d]? = some v ∧ V j v w) →
   (∀ d, free ops i d = true → a.tmps[d]? = a0.tmps[d]?) →
   wpOp P ops Q i (fun a' w' => ∃ v, a' = a.put o.dst v ∧ V i v w' ∧ S (listed.setIfInBounds i true) w' ∧ R w w') a w)
  (hdone : ∀ listed a w, (∀ i, i < ops.size → listed.getD i false = true) → S listed w → a.defers = a0.defers → a.tmps.size = a0.tmps.size →
   (∀ d, (∀ (j : Nat) (oj : Oper), ops[j]? = some oj → oj.dst ≠ some d) → a.tmps[d]? = a0.tmps[d]?) →
   (∀ j oj d, ops[j]? = some oj → oj.dst = some d → ∃ v, a.tmps[d]? = some v ∧ V j v w) → Q .normal a w) :
  wpAny P .any ops Q ops.size (Array.replicate ops.size false) a0 w0.drew := by
 refine any_inv V S R hfit hmono hstep hdone ops.size (Array.replicate ops.size false) a0 _ ?_ ?_
 ·
  unfold left
  rw [Array.toList_replicate, List.countP_replicate]
  simp
 ·
  have hf : ∀ j, (Array.replicate ops.size false).getD j false = false := by
   intro j
   simp only [Array.getD_eq_getD_getElem?, Array.getElem?_replicate]
   split <;> rfl
  refine ⟨hS, rfl, rfl, by simp, ?_, fun d _ => rfl, ?_⟩
  ·
   intro j oj _ hl
   rw [hf] at hl
   cases hl
  ·
   intro j oj d _ _ hl
   rw [hf] at hl
   cases hl
theorem wanted_by {ops : Array Oper} {o : Oper} {tmps : Array Value} (g : Nat) (b : Bool) (d : Nat) (h : o.guard = some (g, b)) (hd : (ops[g]?).bind (·.dst) = some d) (hv : tmps[d]? = some (.bool b)) :
  Region.wanted o (yielded ops tmps) = true := by
 unfold Region.wanted yielded
 rw [h]
 simp [hd, hv]
theorem wanted_free {ops : Array Oper} {o : Oper} {tmps : Array Value} (h : o.guard = none) : Region.wanted o (yielded ops tmps) = true := by
 unfold Region.wanted
 rw [h]
theorem op_value {P : Program} {ops : Array Oper} {Q : Exit → Act → World → Prop} {i : Nat} {o : Oper} {a : Act} {w w' : World} {v : Value} {V : Nat → Value → World → Prop} {S : World → Prop} {R : World → World → Prop} (hi : ops[i]? = some o) (hw : Region.wanted o (yielded ops a.tmps) = true)
  (hr : (execOp a.eval o).run P w = .ok (.value v) w') (hV : V i v w') (hS : S w') (hR : R w w') :
  wpOp P ops Q i (fun a' w' => ∃ v, a' = a.put o.dst v ∧ V i v w' ∧ S w' ∧ R w w') a w := by
 unfold wpOp
 simp only [hi, hw, if_true]
 refine .inl ?_
 unfold Oper.wp
 rw [hr]
 exact ⟨v, rfl, hV, hS, hR⟩
theorem op_call {P : Program} {ops : Array Oper} {Q : Exit → Act → World → Prop} {i : Nat} {o : Oper} {a : Act} {w w' : World} {f : FuncId} {args : Array Value} {V : Nat → Value → World → Prop} {S : World → Prop} {R : World → World → Prop} (hi : ops[i]? = some o) (hw : Region.wanted o (yielded ops a.tmps) = true)
  (hr : (execOp a.eval o).run P w = .ok (.enter f args) w')
  (hc : Calls P f args w' fun e w'' => ∃ v, e = .returned v ∧ V i v w'' ∧ S w'' ∧ R w w'') :
  wpOp P ops Q i (fun a' w' => ∃ v, a' = a.put o.dst v ∧ V i v w' ∧ S w' ∧ R w w') a w := by
 unfold wpOp
 simp only [hi, hw, if_true]
 refine .inl ?_
 unfold Oper.wp
 rw [hr]
 refine Calls.mono hc ?_
 rintro e w'' ⟨v, rfl, hV, hS, hR⟩
 exact ⟨v, rfl, hV, hS, hR⟩
def filledN (ops : Array Oper) (val : Nat → Value) (tmps : Array Value) : Nat → Array Value
 | 0 => tmps
 | n + 1 =>
  match (ops[n]?).bind (·.dst) with
  | some d => (filledN ops val tmps n).setIfInBounds d (val n)
  | none => filledN ops val tmps n
theorem filledN_size (ops : Array Oper) (val : Nat → Value) (tmps : Array Value) (n : Nat) : (filledN ops val tmps n).size = tmps.size := by
 induction n with
 | zero => rfl
 | succ n ih =>
  unfold filledN
  split
  ·
   rw [Array.size_setIfInBounds]; exact ih
  ·
   exact ih
theorem filledN_none {ops : Array Oper} {val : Nat → Value} {tmps : Array Value} {d : Nat} (n : Nat) (h : ∀ (j : Nat) (oj : Oper), j < n → ops[j]? = some oj → oj.dst ≠ some d) : (filledN ops val tmps n)[d]? = tmps[d]? := by
 induction n with
 | zero => rfl
 | succ n ih =>
  have ih' := ih fun j oj hj => h j oj (by omega)
  unfold filledN
  split
  ·
   rename_i d' hd'
   obtain ⟨o, ho, hod⟩ := Option.bind_eq_some_iff.1 hd'
   rw [Array.getElem?_setIfInBounds_ne (fun e => h n o (by omega) ho (by rw [hod, e]))]
   exact ih'
  ·
   exact ih'
theorem filledN_some {ops : Array Oper} {val : Nat → Value} {tmps : Array Value} {d j : Nat} {oj : Oper} (hj : ops[j]? = some oj) (hd : oj.dst = some d) (hlt : d < tmps.size) (hun : ∀ (i : Nat) (oi : Oper), ops[i]? = some oi → oi.dst = some d → i = j) (n : Nat) (hn : j < n) :
  (filledN ops val tmps n)[d]? = some (val j) := by
 induction n with
 | zero => omega
 | succ n ih =>
  unfold filledN
  by_cases hjn : j = n
  ·
   subst hjn
   have e : (ops[j]?).bind (·.dst) = some d := by rw [hj]; exact hd
   rw [e]
   simp only
   rw [Array.getElem?_setIfInBounds_self_of_lt (by rw [filledN_size]; exact hlt)]
  ·
   have ih' := ih (by omega)
   split
   ·
    rename_i d' hd'
    obtain ⟨o, ho, hod⟩ := Option.bind_eq_some_iff.1 hd'
    rw [Array.getElem?_setIfInBounds_ne (fun e => hjn (hun n o ho (by rw [hod, e])).symm)]
    exact ih'
   ·
    exact ih'
theorem val_op {P : Program} {ops : Array Oper} {Q : Exit → Act → World → Prop} {i : Nat} {o : Oper} {a : Act} {w w' : World} {v u : Value} {S : World → Prop} (hi : ops[i]? = some o) (hw : Region.wanted o (yielded ops a.tmps) = true)
  (hr : (execOp a.eval o).run P w = .ok (.value v) w') (hv : v = u) (hS : S w') :
  wpOp P ops Q i (fun a' w' => ∃ v, a' = a.put o.dst v ∧ (o.dst.isSome = true → v = u) ∧ S w' ∧ True) a w := by
 unfold wpOp
 simp only [hi, hw, if_true]
 refine .inl ?_
 unfold Oper.wp
 rw [hr]
 exact ⟨v, rfl, fun _ => hv, hS, trivial⟩
theorem val_skip {P : Program} {ops : Array Oper} {Q : Exit → Act → World → Prop} {i : Nat} {o : Oper} {a : Act} {w w' : World} {u : Value} {S : World → Prop} (hi : ops[i]? = some o) (hw : Region.wanted o (yielded ops a.tmps) = true) (hd : o.dst = none)
  (hr : (execOp a.eval o).run P w = .ok .skip w') (hS : S w') :
  wpOp P ops Q i (fun a' w' => ∃ v, a' = a.put o.dst v ∧ (o.dst.isSome = true → v = u) ∧ S w' ∧ True) a w := by
 unfold wpOp
 simp only [hi, hw, if_true]
 refine .inl ?_
 unfold Oper.wp
 rw [hr]
 refine ⟨undef, ?_, (fun h => by rw [hd] at h; cases h), hS, trivial⟩
 rw [hd]
theorem val_call {P : Program} {ops : Array Oper} {Q : Exit → Act → World → Prop} {i : Nat} {o : Oper} {a : Act} {w w' : World} {f : FuncId} {args : Array Value} {u : Value} {S : World → Prop} (hi : ops[i]? = some o) (hw : Region.wanted o (yielded ops a.tmps) = true)
  (hr : (execOp a.eval o).run P w = .ok (.enter f args) w')
  (hc : Calls P f args w' fun e w'' => e = .returned u ∧ S w'') :
  wpOp P ops Q i (fun a' w' => ∃ v, a' = a.put o.dst v ∧ (o.dst.isSome = true → v = u) ∧ S w' ∧ True) a w := by
 unfold wpOp
 simp only [hi, hw, if_true]
 refine .inl ?_
 unfold Oper.wp
 rw [hr]
 refine Calls.mono hc ?_
 rintro e w'' ⟨rfl, hS⟩
 exact ⟨u, rfl, fun _ => rfl, hS, trivial⟩
theorem unwanted_by {ops : Array Oper} {o : Oper} {tmps : Array Value} (g : Nat) (b : Bool) (d : Nat) (h : o.guard = some (g, b)) (hd : (ops[g]?).bind (·.dst) = some d) (hv : tmps[d]? = some (.bool (!b))) :
  Region.wanted o (yielded ops tmps) = false := by
 unfold Region.wanted yielded
 rw [h]
 simp only [hd, Option.bind_some, hv]
 cases b <;> rfl
theorem unwanted_undef {ops : Array Oper} {o : Oper} {tmps : Array Value} (g : Nat) (b : Bool) (d : Nat) (h : o.guard = some (g, b)) (hd : (ops[g]?).bind (·.dst) = some d) (hv : tmps[d]? = some undef) :
  Region.wanted o (yielded ops tmps) = false := by
 unfold Region.wanted yielded
 rw [h]
 simp only [hd, Option.bind_some, hv]
 cases b <;> rfl
theorem val_left {P : Program} {ops : Array Oper} {Q : Exit → Act → World → Prop} {i : Nat} {o : Oper} {a : Act} {w : World} {u : Value} {S : World → Prop} (hi : ops[i]? = some o) (hw : Region.wanted o (yielded ops a.tmps) = false) (hu : u = undef) (hS : S w) :
  wpOp P ops Q i (fun a' w' => ∃ v, a' = a.put o.dst v ∧ (o.dst.isSome = true → v = u) ∧ S w' ∧ True) a w := by
 unfold wpOp
 simp only [hi, hw, Bool.false_eq_true, if_false]
 exact ⟨undef, rfl, fun _ => hu.symm, hS, trivial⟩
def chained (ops : Array Oper) (cs : List Nat) : Bool :=
 (List.range cs.length).all fun j => match cs[j]? with
  | none => true
  | some c => match ops[c]? with
   | none => false
   | some o => (j == 0 || (match cs[j - 1]? with | some c' => waits o c' | none => true)) && ((List.range cs.length).all fun i => i == j || cs[i]? != some c)
theorem chained_spec {ops : Array Oper} {cs : List Nat} (h : chained ops cs = true) {j c : Nat} (hj : cs[j]? = some c) :
  ∃ o, ops[c]? = some o ∧ (∀ c', 0 < j → cs[j - 1]? = some c' → waits o c' = true) ∧ ∀ i, cs[i]? = some c → i = j := by
 have hlt : j < cs.length := (List.getElem?_eq_some_iff.1 hj).1
 unfold chained at h
 rw [List.all_eq_true] at h
 have h1 := h j (List.mem_range.2 hlt)
 rw [hj] at h1
 simp only at h1
 cases ho : ops[c]? with
 | none => rw [ho] at h1; cases h1
 | some o =>
  rw [ho] at h1
  simp only [Bool.and_eq_true, Bool.or_eq_true, List.all_eq_true] at h1
  refine ⟨o, rfl, fun c' h0 hc' => ?_, fun i hi => ?_⟩
  ·
   rw [hc'] at h1
   rcases h1.1 with h2 | h2
   ·
    rw [beq_iff_eq] at h2; omega
   ·
    exact h2
  ·
   have h2 := h1.2 i (List.mem_range.2 (List.getElem?_eq_some_iff.1 hi).1)
   rw [hi] at h2
   simpa using h2
def mayAt (ops : Array Oper) (cs : List Nat) (i k : Nat) : Bool :=
 if cs.contains i then cs[k]? == some i
 else (List.range k).all fun j => match cs[j]? with
  | none => true
  | some c => match ops[c]? with
   | none => true
   | some o => !waits o i
theorem chain_any {P : Program} {ops : Array Oper} {Q : Exit → Act → World → Prop} {a0 : Act} {w0 : World} (cs : List Nat) (V : Nat → Value → World → Prop) (S : Nat → World → Prop) (R : World → World → Prop)
  (hfit : fit ops a0.tmps.size = true) (hch : chained ops cs = true)
  (hmono : ∀ i v w w', R w w' → V i v w → V i v w')
  (hS : S 0 w0.drew)
  (hstep : ∀ i o, ops[i]? = some o → ∀ k a w, k ≤ cs.length → mayAt ops cs i k = true → S k w → a.defers = a0.defers → a.tmps.size = a0.tmps.size →
   (∀ j oj d, ops[j]? = some oj → oj.dst = some d → waits o j = true → ∃ v, a.tmps[d]? = some v ∧ V j v w) →
   (∀ d, free ops i d = true → a.tmps[d]? = a0.tmps[d]?) →
   wpOp P ops Q i (fun a' w' => ∃ v, a' = a.put o.dst v ∧ V i v w' ∧ S (if cs.contains i = true then k + 1 else k) w' ∧ R w w') a w)
  (n : Nat) (hn : ops.size = n)
  (hdone : ∀ (val : Nat → Value) (w : World), S cs.length w → (∀ j oj, ops[j]? = some oj → oj.dst.isSome = true → V j (val j) w) → Q .normal ⟨filledN ops val a0.tmps n, a0.defers⟩ w) :
  wpAny P .any ops Q ops.size (Array.replicate ops.size false) a0 w0.drew := by
 refine inv_any V (fun listed w => ∃ k, k ≤ cs.length ∧ S k w ∧ ∀ j c, cs[j]? = some c → (listed.getD c false = true ↔ j < k)) R hfit hmono ?_ ?_ ?_
 ·
  refine ⟨0, Nat.zero_le _, hS, fun j c _ => ?_⟩
  have hf : (Array.replicate ops.size false).getD c false = false := by
   simp only [Array.getD_eq_getD_getElem?, Array.getElem?_replicate]
   split <;> rfl
  rw [hf]
  simp
 ·
  rintro i o ho listed a w hil h0 hcl hall ⟨k, hk, hs, hlist⟩ hdf hsz hdep hsame
  by_cases hc : i ∈ cs
  ·
   obtain ⟨j, hj⟩ := List.mem_iff_getElem?.1 hc
   obtain ⟨oc, hoc, hw, hun⟩ := chained_spec hch hj
   rw [ho] at hoc
   cases hoc
   have h1 : ¬ j < k := fun h => by rw [(hlist j i hj).2 h] at h0; cases h0
   have h2 : j ≤ k := by
    rcases Nat.eq_zero_or_pos j with hz | hz
    ·
     omega
    ·
     have hjl := (List.getElem?_eq_some_iff.1 hj).1
     have hp : cs[j - 1]? = some cs[j - 1] := List.getElem?_eq_getElem (by omega)
     obtain ⟨e, he, hb, hei⟩ := waits_spec.1 (hw _ hz hp)
     have := hall e he hb
     rw [hei] at this
     have := (hlist _ _ hp).1 this
     omega
   obtain rfl : j = k := by omega
   have hjl := (List.getElem?_eq_some_iff.1 hj).1
   have hcc : cs.contains i = true := by simpa using hc
   refine wpOp_mono ?_ (hstep i o ho j a w hk (by unfold mayAt; rw [if_pos hcc, hj]; simp) hs hdf hsz hdep hsame)
   rintro a' w' ⟨v, e1, e2, e3, e4⟩
   rw [if_pos hcc] at e3
   refine ⟨v, e1, e2, ⟨j + 1, by omega, e3, fun j' c hc' => ?_⟩, e4⟩
   rw [getD_set _ _ _ hil]
   by_cases hci : c = i
   ·
    subst hci
    rw [if_pos rfl]
    have := hun j' hc'
    constructor
    ·
     intro _; omega
    ·
     intro _; rfl
   ·
    rw [if_neg hci, hlist j' c hc']
    have hne : j' ≠ j := fun e => by rw [e, hj] at hc'; cases hc'; exact hci rfl
    omega
  ·
   have hcc : cs.contains i = false := by simpa using hc
   refine wpOp_mono ?_ (hstep i o ho k a w hk ?_ hs hdf hsz hdep hsame)
   ·
    rintro a' w' ⟨v, e1, e2, e3, e4⟩
    rw [if_neg (by rw [hcc]; decide)] at e3
    refine ⟨v, e1, e2, ⟨k, hk, e3, fun j' c hc' => ?_⟩, e4⟩
    rw [getD_set _ _ _ hil, if_neg (fun e => hc (by rw [← e]; exact List.mem_of_getElem? hc'))]
    exact hlist j' c hc'
   ·
    unfold mayAt
    rw [if_neg (by rw [hcc]; decide), List.all_eq_true]
    intro j hj
    have hjk := List.mem_range.1 hj
    have hjc : cs[j]? = some cs[j] := List.getElem?_eq_getElem (by omega)
    obtain ⟨oc, hoc, -, -⟩ := chained_spec hch hjc
    rw [hjc]
    simp only [hoc]
    cases hw : waits oc i with
    | false => rfl
    | true =>
     exfalso
     obtain ⟨e, he, hb, hei⟩ := waits_spec.1 hw
     have := hcl _ oc hoc ((hlist j _ hjc).2 hjk) e he hb
     rw [hei, h0] at this
     cases this
 ·
  rintro listed a w hall ⟨k, hk, hs, hlist⟩ hdf hsz hsame hval
  have hke : k = cs.length := by
   rcases Nat.lt_or_ge k cs.length with h | h
   ·
    exfalso
    have hp : cs[k]? = some cs[k] := List.getElem?_eq_getElem h
    obtain ⟨oc, hoc, -, -⟩ := chained_spec hch hp
    have := (hlist k _ hp).1 (hall _ (Array.getElem?_eq_some_iff.1 hoc).1)
    omega
   ·
    omega
  subst hke
  obtain ⟨val, hv⟩ : ∃ val : Nat → Value, ∀ j oj d, ops[j]? = some oj → oj.dst = some d → a.tmps[d]? = some (val j) ∧ V j (val j) w := by
   refine ⟨fun j => ((ops[j]?).bind (·.dst)).bind (fun d => a.tmps[d]?) |>.getD undef, fun j oj d hj hd => ?_⟩
   obtain ⟨v, h1, h2⟩ := hval j oj d hj hd
   have e : (((ops[j]?).bind (·.dst)).bind (fun d => a.tmps[d]?)).getD undef = v := by rw [hj]; simp [hd, h1]
   show a.tmps[d]? = some ((((ops[j]?).bind (·.dst)).bind (fun d => a.tmps[d]?)).getD undef) ∧ V j ((((ops[j]?).bind (·.dst)).bind (fun d => a.tmps[d]?)).getD undef) w
   rw [e]
   exact ⟨h1, h2⟩
  have e : a = ⟨filledN ops val a0.tmps ops.size, a0.defers⟩ := by
   obtain ⟨tm, df⟩ := a
   simp only at hdf hsz hsame hv
   subst hdf
   congr 1
   apply Array.ext_getElem?
   intro d
   by_cases hx : ∃ (j : Nat) (oj : Oper), ops[j]? = some oj ∧ oj.dst = some d
   ·
    obtain ⟨j, oj, hj, hd⟩ := hx
    rw [(hv j oj d hj hd).1]
    obtain ⟨hdl, hun⟩ := (fit_spec hfit hj).2 d hd
    exact (filledN_some hj hd hdl (fun i oi hi hdi => hun i oi hi hdi) _ (Array.getElem?_eq_some_iff.1 hj).1).symm
   ·
    rw [hsame d fun j oj hj hd => hx ⟨j, oj, hj, hd⟩]
    exact (filledN_none _ fun j oj _ hj hd => hx ⟨j, oj, hj, hd⟩).symm
  rw [e, hn]
  refine hdone val w hs fun j oj hj hd => ?_
  obtain ⟨d, hd'⟩ := Option.isSome_iff_exists.1 hd
  exact (hv j oj d hj hd').2
theorem region_chain {P : Program} {ops : Array Oper} {Q : Exit → Act → World → Prop} {id : Nat} {a0 : Act} {w0 : World} (hm : P.follows .mixedOrders = true) (cs : List Nat) (V : Nat → Value → World → Prop) (S : Nat → World → Prop) (R : World → World → Prop)
  (hfit : fit ops a0.tmps.size = true) (hch : chained ops cs = true)
  (hmono : ∀ i v w w', R w w' → V i v w → V i v w')
  (hS : S 0 w0.drew)
  (hstep : ∀ i o, ops[i]? = some o → ∀ k a w, k ≤ cs.length → mayAt ops cs i k = true → S k w → a.defers = a0.defers → a.tmps.size = a0.tmps.size →
   (∀ j oj d, ops[j]? = some oj → oj.dst = some d → waits o j = true → ∃ v, a.tmps[d]? = some v ∧ V j v w) →
   (∀ d, free ops i d = true → a.tmps[d]? = a0.tmps[d]?) →
   wpOp P ops Q i (fun a' w' => ∃ v, a' = a.put o.dst v ∧ V i v w' ∧ S (if cs.contains i = true then k + 1 else k) w' ∧ R w w') a w)
  (n : Nat) (hn : ops.size = n)
  (hdone : ∀ (val : Nat → Value) (w : World), S cs.length w → (∀ j oj, ops[j]? = some oj → oj.dst.isSome = true → V j (val j) w) → Q .normal ⟨filledN ops val a0.tmps n, a0.defers⟩ w) :
  (Code.region id ops true).wp P Q a0 w0 :=
 wp_region_any hm (chain_any cs V S R hfit hch hmono hS hstep n hn hdone)
theorem filledN_congr {ops : Array Oper} {f g : Nat → Value} {tmps : Array Value} (n : Nat) (h : ∀ j oj, ops[j]? = some oj → oj.dst.isSome = true → f j = g j) : filledN ops f tmps n = filledN ops g tmps n := by
 induction n with
 | zero => rfl
 | succ n ih =>
  unfold filledN
  cases hd : (ops[n]?).bind (·.dst) with
  | none => exact ih
  | some d =>
   obtain ⟨o, ho, hod⟩ := Option.bind_eq_some_iff.1 hd
   simp only
   rw [ih, h n o ho (by rw [hod]; rfl)]
def calm (ops : Array Oper) : Bool := ops.toList.all fun o => match o.op with | .defer _ => false | _ => true
theorem rows_round {P : Program} {row : String} {args : Array Value} {w : World} {R : Value → World → Prop} (l n : Nat) (h : Rows P row args w R) : RowsIn (Fence.wide.inRound l) n P row args w R :=
 fun c cs _ => let ⟨v, w', r, s⟩ := h c cs; ⟨v, w', r, stepsIn_wide.2 s⟩
theorem op_round {P : Program} {ops : Array Oper} {Q : Exit → Act → World → Prop} {l n i : Nat} {K : Act → World → Prop} {a : Act} {w : World} (hc : calm ops = true) (hq : ¬ LetsOut Q)
  (h : wpOp P ops Q i K a w) : wpOpIn (Fence.wide.inRound l) n P ops Q i K a w := by
 unfold wpOp at h
 unfold wpOpIn
 cases ho : ops[i]? with
 | none => rw [ho] at h; exact h
 | some o =>
  rw [ho] at h
  simp only at h ⊢
  split
  ·
   rename_i hw
   rw [if_pos hw] at h
   have h := h.resolve_right fun hh => hq hh.2
   have hd : ∀ c, o.op ≠ .defer c := by
    intro c hcc
    unfold calm at hc
    rw [List.all_eq_true] at hc
    have := hc o (by simpa using Array.mem_of_getElem? ho)
    rw [hcc] at this
    cases this
   refine ⟨fun _ _ => trivial, ?_⟩
   rw [Oper.semAt_eq _ _ _ hd]
   unfold Oper.wp at h
   generalize (execOp a.eval o).run P w = r at *
   cases r with
   | ok x w' =>
    cases x with
    | value v => exact h
    | skip => exact h
    | defer d => exact h
    | enter f args =>
     rw [Oper.upon_enter] at h
     rw [Oper.uponIn_enter]
     refine ⟨(fun hh => by cases hh), ?_⟩
     refine CallsIn.inRound l ((callsIn_wide.2 h).mono ?_)
     intro e w2 he
     cases e <;> exact he
    | row row args =>
     rw [Oper.upon_row] at h
     rw [Oper.uponIn_row]
     exact ⟨(fun hh => by cases hh), rows_round l _ h⟩
    | round l f tmps assign body => exact h.elim
    | _ => exact h.elim
   | halt x w' => cases x <;> exact h
  ·
   rename_i hw
   rw [if_neg hw] at h
   exact ⟨fun _ _ => trivial, h⟩
theorem any_round {P : Program} {ops : Array Oper} {Q : Exit → Act → World → Prop} {l n : Nat} {md : Region.Mode} (hc : calm ops = true) (hq : ¬ LetsOut Q) :
  ∀ (fuel : Nat) (listed : Array Bool) (a : Act) (w : World), wpAny P md ops Q fuel listed a w → wpAnyIn (Fence.wide.inRound l) n P md ops Q fuel listed a w
 | 0, _, _, _, h => h
 | fuel + 1, _, _, _, h => ⟨h.1, fun i hi => wpOpIn_mono (fun a' w' h' => any_round hc hq fuel _ a' w' h') (op_round hc hq (h.2 i hi))⟩
theorem region_round {P : Program} {ops : Array Oper} {Q : Exit → Act → World → Prop} {l n id : Nat} {a : Act} {w : World} (hm : P.follows .mixedOrders = true) (hc : calm ops = true) (hq : ¬ LetsOut Q)
  (h : wpAny P .any ops Q ops.size (Array.replicate ops.size false) a w.drew) : (Code.region id ops true).wpIn (Fence.wide.inRound l) n P Q a w :=
 wpIn_region_any hm (any_round hc hq _ _ _ _ h)
theorem turns_any {P : Program} {ops : Array Oper} {Q : Exit → Act → World → Prop} {a0 : Act} {w0 : World} (cs : List Nat) (val : Nat → Value) (S : Nat → World → Prop)
  (hfit : fit ops a0.tmps.size = true) (hch : chained ops cs = true)
  (hS : S 0 w0.drew)
  (hstep : ∀ i o, ops[i]? = some o → ∀ k a w, k ≤ cs.length → mayAt ops cs i k = true → S k w → a.defers = a0.defers → a.tmps.size = a0.tmps.size →
   (∀ j oj d, ops[j]? = some oj → oj.dst = some d → waits o j = true → a.tmps[d]? = some (val j)) →
   (∀ d, free ops i d = true → a.tmps[d]? = a0.tmps[d]?) →
   wpOp P ops Q i (fun a' w' => ∃ v, a' = a.put o.dst v ∧ (o.dst.isSome = true → v = val i) ∧ S (if cs.contains i = true then k + 1 else k) w' ∧ True) a w)
  (n : Nat) (hn : ops.size = n)
  (hdone : ∀ w, S cs.length w → Q .normal ⟨filledN ops val a0.tmps n, a0.defers⟩ w) :
  wpAny P .any ops Q ops.size (Array.replicate ops.size false) a0 w0.drew := by
 refine chain_any cs (fun i v _ => ∀ o, ops[i]? = some o → o.dst.isSome = true → v = val i) S (fun _ _ => True) hfit hch (fun i v w w' _ h => h) hS ?_ n hn ?_
 ·
  intro i o ho k a w hk hmay hs hdf hsz hdep hsame
  refine wpOp_mono ?_ (hstep i o ho k a w hk hmay hs hdf hsz ?_ hsame)
  ·
   rintro a' w' ⟨v, h1, h2, h3, _⟩
   refine ⟨v, h1, fun o' ho' hd' => ?_, h3, trivial⟩
   rw [ho] at ho'
   cases ho'
   exact h2 hd'
  ·
   intro j oj d hj hd hw
   obtain ⟨v, hv, hV⟩ := hdep j oj d hj hd hw
   rw [hv, hV oj hj (by rw [hd]; rfl)]
 ·
  intro val' w hs hV
  rw [filledN_congr n fun j oj hj hd => hV j oj hj hd oj hj hd]
  exact hdone w hs
theorem region_turns {P : Program} {ops : Array Oper} {Q : Exit → Act → World → Prop} {id : Nat} {a0 : Act} {w0 : World} (hm : P.follows .mixedOrders = true) (cs : List Nat) (val : Nat → Value) (S : Nat → World → Prop)
  (hfit : fit ops a0.tmps.size = true) (hch : chained ops cs = true)
  (hS : S 0 w0.drew)
  (hstep : ∀ i o, ops[i]? = some o → ∀ k a w, k ≤ cs.length → mayAt ops cs i k = true → S k w → a.defers = a0.defers → a.tmps.size = a0.tmps.size →
   (∀ j oj d, ops[j]? = some oj → oj.dst = some d → waits o j = true → a.tmps[d]? = some (val j)) →
   (∀ d, free ops i d = true → a.tmps[d]? = a0.tmps[d]?) →
   wpOp P ops Q i (fun a' w' => ∃ v, a' = a.put o.dst v ∧ (o.dst.isSome = true → v = val i) ∧ S (if cs.contains i = true then k + 1 else k) w' ∧ True) a w)
  (n : Nat) (hn : ops.size = n)
  (hdone : ∀ w, S cs.length w → Q .normal ⟨filledN ops val a0.tmps n, a0.defers⟩ w) :
  (Code.region id ops true).wp P Q a0 w0 := wp_region_any hm (turns_any cs val S hfit hch hS hstep n hn hdone)
theorem round_turns {P : Program} {ops : Array Oper} {Q : Exit → Act → World → Prop} {id l m : Nat} {a0 : Act} {w0 : World} (hm : P.follows .mixedOrders = true) (hc : calm ops = true) (cs : List Nat) (val : Nat → Value) (S : Nat → World → Prop)
  (hfit : fit ops a0.tmps.size = true) (hch : chained ops cs = true)
  (hS : S 0 w0.drew)
  (hstep : ∀ i o, ops[i]? = some o → ∀ k a w, k ≤ cs.length → mayAt ops cs i k = true → S k w → a.defers = a0.defers → a.tmps.size = a0.tmps.size →
   (∀ j oj d, ops[j]? = some oj → oj.dst = some d → waits o j = true → a.tmps[d]? = some (val j)) →
   (∀ d, free ops i d = true → a.tmps[d]? = a0.tmps[d]?) →
   wpOp P ops (Exit.then (Q .normal) fun _ _ _ => False) i (fun a' w' => ∃ v, a' = a.put o.dst v ∧ (o.dst.isSome = true → v = val i) ∧ S (if cs.contains i = true then k + 1 else k) w' ∧ True) a w)
  (n : Nat) (hn : ops.size = n)
  (hdone : ∀ w, S cs.length w → Q .normal ⟨filledN ops val a0.tmps n, a0.defers⟩ w) :
  (Code.region id ops true).wpIn (Fence.wide.inRound l) m P Q a0 w0 :=
 wpIn_mono (region_round hm hc (by rintro ⟨_, _, h⟩; exact h) (turns_any (Q := Exit.then (Q .normal) fun _ _ _ => False) cs val S hfit hch hS hstep n hn hdone)) fun e a w h => by cases e <;> first | exact h | exact h.elim
theorem op_skip {P : Program} {ops : Array Oper} {Q : Exit → Act → World → Prop} {i : Nat} {o : Oper} {a : Act} {w w' : World} {V : Nat → Value → World → Prop} {S : World → Prop} {R : World → World → Prop} (hi : ops[i]? = some o) (hw : Region.wanted o (yielded ops a.tmps) = true) (hd : o.dst = none)
  (hr : (execOp a.eval o).run P w = .ok .skip w') (hV : V i undef w') (hS : S w') (hR : R w w') :
  wpOp P ops Q i (fun a' w' => ∃ v, a' = a.put o.dst v ∧ V i v w' ∧ S w' ∧ R w w') a w := by
 unfold wpOp
 simp only [hi, hw, if_true]
 refine .inl ?_
 unfold Oper.wp
 rw [hr]
 refine ⟨undef, ?_, hV, hS, hR⟩
 rw [hd]
end Go.Proofs.Ytdpljpjbomhccaa.Anylast
namespace Go.Proofs.Ytdpljpjbomhccaa
open Go.RowKit Plain Anylast
set_option linter.unusedVariables false
structure OwnRun (w : World) (B g h n cap capS : Nat) (tv : List TaskV) (ss : List StP) : Prop where
 hT : IsT w (some ⟨g, 0, none⟩) cap tv
 row : RowZ w h 0 capS ss
 deep : ∀ u ∈ tv, ∀ x, u.a = some x → h < x.block
 hgh : g < h
 hg : B ≤ g
 htn : n = tv.length
 hn : n = ss.length
theorem OwnRun.off {w : World} {B g h n cap capS : Nat} {tv : List TaskV} {ss : List StP} (r : OwnRun w B g h n cap capS tv ss) : OffT h (some ⟨g, 0, none⟩) tv := by
 have hgh := r.hgh
 exact ⟨fun y hy => by cases hy; show g ≠ h; omega, fun u hu y hy => by have := r.deep u hu y hy; omega⟩
theorem OwnRun.mono {w : World} {B B' g h n cap capS : Nat} {tv : List TaskV} {ss : List StP} (r : OwnRun w B g h n cap capS tv ss) (hB : B' ≤ B) : OwnRun w B' g h n cap capS tv ss :=
 ⟨r.hT, r.row, r.deep, r.hgh, Nat.le_trans hB r.hg, r.htn, r.hn⟩
theorem OwnRun.turns {P : Nat → Prop} {w w' : World} {B g h n cap capS : Nat} {tv : List TaskV} {ss : List StP} (r : OwnRun w B g h n cap capS tv ss) (t : Turns P w w') (hP : ∀ k, P k → k < B) : OwnRun w' B g h n cap capS tv ss := by
 have hg := r.hg
 have hgh := r.hgh
 refine ⟨r.hT.turns t (fun x hx hp => ?_) (fun u hu x hx hp => ?_), r.row.turns t (fun hp => ?_), r.deep, r.hgh, r.hg, r.htn, r.hn⟩
 ·
  cases hx; have := hP _ hp; simp only at this; omega
 ·
  have := hP _ hp; have := r.deep u hu x hx; omega
 ·
  have := hP _ hp; omega
theorem OwnRun.below {w w' : World} {B g h n cap capS : Nat} {tv : List TaskV} {ss : List StP} (r : OwnRun w B g h n cap capS tv ss) (hb : Below w.heap.size w w') : OwnRun w' B g h n cap capS tv ss := r.turns (P := fun _ => False) (Turns.of_below hb) fun _ h => h.elim
theorem OwnRun.store {w w' : World} {B g h n cap capS : Nat} {tv : List TaskV} {ss ss' : List StP} (r : OwnRun w B g h n cap capS tv ss) (t : Turns (fun k => k = h) w w') (hR : RowZ w' h 0 capS ss') (hl : ss'.length = ss.length) : OwnRun w' B g h n cap capS tv ss' :=
 ⟨r.hT.off t r.off, hR, r.deep, r.hgh, r.hg, r.htn, by rw [hl]; exact r.hn⟩
def twV (z tb to n tc sb so sc g cap h capS : Nat) : Nat → Value
 | 0 => .pointer (some ⟨z, 1, none⟩) | 1 => .pointer (some ⟨z, 2, none⟩) | 2 => .slice (some ⟨tb, to, none⟩) n tc | 3 => .slice (some ⟨g, 0, none⟩) n cap
 | 4 => .pointer (some ⟨z, 4, none⟩) | 5 => .slice (some ⟨sb, so, none⟩) n sc | 6 => .slice (some ⟨h, 0, none⟩) n capS
 | 7 => .pointer (some ⟨z, 1, none⟩) | 8 => .pointer (some ⟨z, 2, none⟩) | 10 => .pointer (some ⟨z, 4, none⟩) | _ => undef
def twV2 (z g n cap j bx : Nat) (a : Option Addr) (k c : Nat) (x : Option Addr) (c' : Nat) : Nat → Value
 | 0 => .pointer (some ⟨z, 1, none⟩) | 1 => .pointer (some ⟨z, 2, none⟩) | 2 => .slice (some ⟨g, 0, none⟩) n cap | 3 => .int .i64 j | 4 => .pointer (some ⟨bx, 0, none⟩) | 5 => .slice a k c
 | 6 => .slice x k c' | 7 => .pointer (some ⟨g, j * 4, none⟩) | 8 => .pointer (some ⟨g, j * 4, none⟩) | _ => undef
structure TwAt (w wr : World) (g h cap n j : Nat) (tv tw : List TaskV) : Prop where
 row : RowK wr g cap tw
 needs : NeedsIn wr tw
 same : plainT tw = plainT tv
 rest : ∀ i, j ≤ i → tw[i]? = tv[i]?
 own : ∀ (i : Nat) u, i < j → tw[i]? = some u → ∀ x, u.a = some x → h < x.block
set_option maxRecDepth 20000 in
set_option maxHeartbeats 4000000 in
theorem twin_any (ky nm : ByteArray) (tb to n tc : Nat) (is : Int) (sb so sc : Nat) (tv : List TaskV) (ss : List StP) (w : World) (hT : IsT w (some ⟨tb, to, none⟩) tc tv) (htn : n = tv.length) (hZ : IsZ w (some ⟨sb, so, none⟩) sc ss) (hn : n = ss.length) (h0 : 0 < n) (h10 : n ≤ 10) (hns : ∀ t ∈ tv, t.ns.length ≤ 4096) :
  Calls Try.prog 31 #[.agg #[.string ky, .string nm, .slice (some ⟨tb, to, none⟩) n tc, .int .i64 is, .slice (some ⟨sb, so, none⟩) n sc]] w fun e w' => ∃ g h cap capS tw, e = .returned (.agg #[.string ky, .string nm, .slice (some ⟨g, 0, none⟩) n cap, .int .i64 is, .slice (some ⟨h, 0, none⟩) n capS]) ∧ plainT tw = plainT tv ∧ OwnRun w' w.heap.size g h n cap capS tw ss ∧ Below w.heap.size w w' := by
 obtain ⟨W0, hW0⟩ : ∃ W0, W0 = (w.alloc (.cells #[.string ky, .string nm, .slice (some ⟨tb, to, none⟩) n tc, .int .i64 is, .slice (some ⟨sb, so, none⟩) n sc] 27)).alloc (.cells #[.string ⟨#[]⟩, .string ⟨#[]⟩, .slice none 0 0, .int .i64 0, .slice none 0 0] 27) := ⟨_, rfl⟩
 have hB0 : Below w.heap.size w W0 := by rw [hW0]; exact bel2 w _ _
 have hs0 : W0.heap.size = w.heap.size + 2 := by rw [hW0]; simp
 have BX : BoxL W0 w.heap.size [.string ky, .string nm, .slice (some ⟨tb, to, none⟩) n tc, .int .i64 is, .slice (some ⟨sb, so, none⟩) n sc] := by rw [hW0]; exact (boxL_new w [.string ky, .string nm, .slice (some ⟨tb, to, none⟩) n tc, .int .i64 is, .slice (some ⟨sb, so, none⟩) n sc] _ rfl).alloc _
 have BY : BoxL W0 (w.heap.size + 1) [.string ⟨#[]⟩, .string ⟨#[]⟩, .slice none 0 0, .int .i64 0, .slice none 0 0] := by rw [hW0]; exact boxL_new _ [.string ⟨#[]⟩, .string ⟨#[]⟩, .slice none 0 0, .int .i64 0, .slice none 0 0] _ (by simp)
 obtain ⟨g, cap, wA, cA, RA, hgA, hBA⟩ := cloneK_any tb to tc n tv W0.drew htn (hT.below (hB0.drew)) (by omega)
 obtain ⟨h, capS, wB, cB, RB, hgB, hBB⟩ := cloneZ_any sb so sc n ss wA hn h0 ((hZ.below hB0.drew).below hBA) (by omega)
 have hBA' : Below W0.heap.size W0 wA := Below.tr (Below.refl _ _).drew hBA
 have hgs : W0.heap.size ≤ g := hgA
 have hAl : W0.heap.size ≤ wA.heap.size := hBA.size
 have hgl : g < wA.heap.size := RA.lt
 have hBX : BoxL wB w.heap.size [.string ky, .string nm, .slice (some ⟨tb, to, none⟩) n tc, .int .i64 is, .slice (some ⟨sb, so, none⟩) n sc] := (BX.below hBA').below hBB
 have hBY : BoxL wB (w.heap.size + 1) [.string ⟨#[]⟩, .string ⟨#[]⟩, .slice none 0 0, .int .i64 0, .slice none 0 0] := (BY.below hBA').below hBB
 have f2 := BX.1 2 _ rfl
 have f4 := BX.1 4 _ rfl
 have a4 := (BX.below hBA').1 4 _ rfl
 have b2 := hBX.1 2 _ rfl
 have b4 := hBX.1 4 _ rfl
 have d2 := hBX.2 2 (by simp)
 have d4 := hBX.2 4 (by simp)
 obtain ⟨wC, hwC⟩ : ∃ wC, wC = wB.setCell ⟨w.heap.size, 2, none⟩ (.slice (some ⟨g, 0, none⟩) n cap) := ⟨_, rfl⟩
 have hCX : BoxL wC w.heap.size [.string ky, .string nm, .slice (some ⟨g, 0, none⟩) n cap, .int .i64 is, .slice (some ⟨sb, so, none⟩) n sc] := by rw [hwC]; exact hBX.set 2 _
 have c4 := hCX.1 4 _ rfl
 have e4 := hCX.2 4 (by simp)
 obtain ⟨wD, hwD⟩ : ∃ wD, wD = wC.setCell ⟨w.heap.size, 4, none⟩ (.slice (some ⟨h, 0, none⟩) n capS) := ⟨_, rfl⟩
 have hDX : BoxL wD w.heap.size [.string ky, .string nm, .slice (some ⟨g, 0, none⟩) n cap, .int .i64 is, .slice (some ⟨h, 0, none⟩) n capS] := by rw [hwD]; exact hCX.set 4 _
 have tD : Turns (fun k => k = w.heap.size) wB wD := by rw [hwD, hwC]; exact ((Turns.refl (fun k => k = w.heap.size) wB).setCell (p := ⟨w.heap.size, 2, none⟩) rfl _).setCell (p := ⟨w.heap.size, 4, none⟩) rfl _
 have hDY := boxL_turns hBY tD (by omega)
 have RD := RB.turns tD (by omega)
 have KD : RowK wD g cap tv := by
  have := RA.below hBB
  rw [hwD, hwC]
  exact (this.other (by omega)).other (by omega)
 have hBw : Below w.heap.size w wB := Below.tr (Below.tr hB0 hBA') hBB
 have hBD : Below w.heap.size w wD := Below.turns hBw tD (fun i hi => by omega)
 have ND : NeedsIn wD tv := fun t ht => (hT.2.2.1 t ht).below hBD
 have TW : TwAt w wD g h cap n 0 tv tv := ⟨KD, ND, rfl, fun i _ => rfl, fun i u hi => absurd hi (Nat.not_lt_zero _)⟩
 have HTN : Hid (n = tv.length) := htn
 have HN : Hid (n = ss.length) := hn
 have HNS : Hid (∀ t ∈ tv, t.ns.length ≤ 4096) := hns
 have hcap : n ≤ cap ∧ cap ≤ maxLen := by obtain ⟨_, _, _, h1, h2, _⟩ := RA; exact ⟨by omega, h2⟩
 obtain ⟨hc1, hc2⟩ := hcap
 have hc3 : cap ≤ 9223372036854775807 := hc2
 have HB : Hid (wA.heap.size ≤ h) := hgB
 have hgs2 : w.heap.size + 2 ≤ g := by omega
 have HWO0 : Hid (∀ t ∈ tv, 0 < t.ns.length → ∀ x, t.a = some x → x.block < w.heap.size) := fun t ht h0 x hx => (hT.2.2.1 t ht).lies h0 x hx
 clear hT htn hZ hn hns hB0 BX BY RA RB hBX hBY hCX tD KD ND hBw hAl
 have HwC : Hid (wC = wB.setCell ⟨w.heap.size, 2, none⟩ (.slice (some ⟨g, 0, none⟩) n cap)) := hwC
 have HwD : Hid (wD = wC.setCell ⟨w.heap.size, 4, none⟩ (.slice (some ⟨h, 0, none⟩) n capS)) := hwD
 clear hwC hwD hs0
 go_enter Try.func31, Try.ntmps31
 go_wp2
 rw [← hW0]
 clear hW0
 refine region_turns (by kernel_rfl) [3, 6, 9, 11] (twV w.heap.size tb to n tc sb so sc g cap h capS) (fun k V => Hid (V = [W0.drew, wA, wB, wC].getD k wD)) (by kernel_rfl) (by kernel_rfl) rfl ?step 12 rfl ?after
 case step =>
  intro i o ho kk a2 wX hkk hmay hS hdf hsz hdep hsame
  match i, ho with
  | 0, ho =>
   cases ho
   have h1 := hsame 1 rfl
   exact val_op rfl (wanted_free rfl) (by clear hdep hsame hsz hdf; (try simp only [twV]); go_simp) rfl hS
  | 1, ho =>
   cases ho
   have h5 := hdep 0 _ 5 rfl rfl rfl
   simp only [twV] at h5
   exact val_op rfl (wanted_free rfl) (by clear hdep hsame hsz hdf; (try simp only [twV]); go_simp) rfl hS
  | 2, ho =>
   cases ho
   have h6 := hdep 1 _ 6 rfl rfl rfl
   simp only [twV] at h6
   match kk, hkk, hmay, hS with
   | 0, _, hq, hS => first | (cases hq; done) | ((have hE : wX = W0.drew := hS.out; subst hE); exact val_op rfl (wanted_free rfl) (by clear hdep hsame hsz hdf; (try simp only [twV]); go_simp) rfl hS)
   | 1, _, hq, hS => first | (cases hq; done) | ((have hE : wX = wA := hS.out; subst hE); exact val_op rfl (wanted_free rfl) (by clear hdep hsame hsz hdf; (try simp only [twV]); go_simp) rfl hS)
   | 2, _, hq, hS => first | (cases hq; done) | ((have hE : wX = wB := hS.out; subst hE); exact val_op rfl (wanted_free rfl) (by clear hdep hsame hsz hdf; (try simp only [twV]); go_simp) rfl hS)
   | 3, _, hq, hS => first | (cases hq; done) | ((have hE : wX = wC := hS.out; subst hE); exact val_op rfl (wanted_free rfl) (by clear hdep hsame hsz hdf; (try simp only [twV]); go_simp) rfl hS)
   | 4, _, hq, hS => first | (cases hq; done) | ((have hE : wX = wD := hS.out; subst hE); exact val_op rfl (wanted_free rfl) (by clear hdep hsame hsz hdf; (try simp only [twV]); go_simp) rfl hS)
   | kk + 5, hkk, _, _ => simp at hkk
  | 3, ho =>
   cases ho
   have h7 := hdep 2 _ 7 rfl rfl rfl
   simp only [twV] at h7
   match kk, hkk, hmay, hS with
   | 0, _, _, hS =>
    (have hE : wX = W0.drew := hS.out; subst hE)
    exact val_call rfl (wanted_free rfl) (by clear hdep hsame hsz hdf; (try simp only [twV]); go_simp) (cA.mono fun e w2 hh => ⟨hh.1, hh.2⟩)
   | 1, _, hq, _ => cases hq
   | 2, _, hq, _ => cases hq
   | 3, _, hq, _ => cases hq
   | 4, _, hq, _ => cases hq
   | kk + 5, hkk, _, _ => simp at hkk
  | 4, ho =>
   cases ho
   have h1 := hsame 1 rfl
   exact val_op rfl (wanted_free rfl) (by clear hdep hsame hsz hdf; (try simp only [twV]); go_simp) rfl hS
  | 5, ho =>
   cases ho
   have h9 := hdep 4 _ 9 rfl rfl rfl
   simp only [twV] at h9
   match kk, hkk, hmay, hS with
   | 0, _, hq, hS => first | (cases hq; done) | ((have hE : wX = W0.drew := hS.out; subst hE); exact val_op rfl (wanted_free rfl) (by clear hdep hsame hsz hdf; (try simp only [twV]); go_simp) rfl hS)
   | 1, _, hq, hS => first | (cases hq; done) | ((have hE : wX = wA := hS.out; subst hE); exact val_op rfl (wanted_free rfl) (by clear hdep hsame hsz hdf; (try simp only [twV]); go_simp) rfl hS)
   | 2, _, hq, hS => first | (cases hq; done) | ((have hE : wX = wB := hS.out; subst hE); exact val_op rfl (wanted_free rfl) (by clear hdep hsame hsz hdf; (try simp only [twV]); go_simp) rfl hS)
   | 3, _, hq, hS => first | (cases hq; done) | ((have hE : wX = wC := hS.out; subst hE); exact val_op rfl (wanted_free rfl) (by clear hdep hsame hsz hdf; (try simp only [twV]); go_simp) rfl hS)
   | 4, _, hq, hS => first | (cases hq; done) | ((have hE : wX = wD := hS.out; subst hE); exact val_op rfl (wanted_free rfl) (by clear hdep hsame hsz hdf; (try simp only [twV]); go_simp) rfl hS)
   | kk + 5, hkk, _, _ => simp at hkk
  | 6, ho =>
   cases ho
   have h10 := hdep 5 _ 10 rfl rfl rfl
   simp only [twV] at h10
   match kk, hkk, hmay, hS with
   | 0, _, hq, _ => cases hq
   | 1, _, _, hS =>
    (have hE : wX = wA := hS.out; subst hE)
    exact val_call rfl (wanted_free rfl) (by clear hdep hsame hsz hdf; (try simp only [twV]); go_simp) (cB.mono fun e w2 hh => ⟨hh.1, hh.2⟩)
   | 2, _, hq, _ => cases hq
   | 3, _, hq, _ => cases hq
   | 4, _, hq, _ => cases hq
   | kk + 5, hkk, _, _ => simp at hkk
  | 7, ho =>
   cases ho
   have h1 := hsame 1 rfl
   exact val_op rfl (wanted_free rfl) (by clear hdep hsame hsz hdf; (try simp only [twV]); go_simp) rfl hS
  | 8, ho =>
   cases ho
   have h12 := hdep 7 _ 12 rfl rfl rfl
   simp only [twV] at h12
   exact val_op rfl (wanted_free rfl) (by clear hdep hsame hsz hdf; (try simp only [twV]); go_simp) rfl hS
  | 9, ho =>
   cases ho
   have h13 := hdep 8 _ 13 rfl rfl rfl
   have h8 := hdep 3 _ 8 rfl rfl rfl
   simp only [twV] at h13 h8
   match kk, hkk, hmay, hS with
   | 0, _, hq, _ => cases hq
   | 1, _, hq, _ => cases hq
   | 2, _, _, hS =>
    (have hE : wX = wB := hS.out; subst hE)
    exact val_skip (w' := _) rfl (wanted_free rfl) rfl (by clear hdep hsame hsz hdf; (try simp only [twV]); go_simp) (HwC.out.symm)
   | 3, _, hq, _ => cases hq
   | 4, _, hq, _ => cases hq
   | kk + 5, hkk, _, _ => simp at hkk
  | 10, ho =>
   cases ho
   have h1 := hsame 1 rfl
   exact val_op rfl (wanted_free rfl) (by clear hdep hsame hsz hdf; (try simp only [twV]); go_simp) rfl hS
  | 11, ho =>
   cases ho
   have h14 := hdep 10 _ 14 rfl rfl rfl
   have h11 := hdep 6 _ 11 rfl rfl rfl
   simp only [twV] at h14 h11
   match kk, hkk, hmay, hS with
   | 0, _, hq, _ => cases hq
   | 1, _, hq, _ => cases hq
   | 2, _, hq, _ => cases hq
   | 3, _, _, hS =>
    (have hE : wX = wC := hS.out; subst hE)
    exact val_skip (w' := _) rfl (wanted_free rfl) rfl (by clear hdep hsame hsz hdf; (try simp only [twV]); go_simp) (HwD.out.symm)
   | 4, _, hq, _ => cases hq
   | kk + 5, hkk, _, _ => simp at hkk
  | kk + 12, ho => simp at ho
 case after =>
  rintro V hV
  have hE : V = wD := hV.out
  clear hV
  subst hE
  simp [filledN, twV]
  have g2 := hDX.1 2 _ rfl
  clear c4 e4 a4 b2 b4 d2 d4 f2 f4 HwC HwD cA cB
  go_wp2
  clear g2
  have HWO : Hid (∀ t ∈ tv, 0 < t.ns.length → ∀ x, t.a = some x → x.block < w.heap.size) := HWO0
  go_loopw [19] (fun v wr => ∃ j : Nat, j ≤ n ∧ v = .int .i64 j ∧ BoxL wr w.heap.size [.string ky, .string nm, .slice (some ⟨g, 0, none⟩) n cap, .int .i64 is, .slice (some ⟨h, 0, none⟩) n capS] ∧ BoxL wr (w.heap.size + 1) [.string ⟨#[]⟩, .string ⟨#[]⟩, .slice none 0 0, .int .i64 0, .slice none 0 0] ∧ RowZ wr h 0 capS ss ∧ (∃ tw, TwAt w wr g h cap n j tv tw) ∧ Below w.heap.size w wr) (fun v _ => n - (intOf v).toNat)
  case atStart => exact ⟨0, Nat.zero_le _, rfl, hDX, hDY, RD, ⟨tv, TW⟩, hBD⟩
  case round =>
   clear hDX hDY RD TW hBD
   obtain ⟨j, hj, rfl, BX, BY, R, ⟨tw, TW⟩, hB⟩ := hrel
   by_cases hlt : j < n
   ·
    have hlt' : (j : Int) < n := by omega
    obtain ⟨t, ht⟩ : ∃ t, tv[j]? = some t := ⟨_, List.getElem?_eq_getElem (by rw [← HTN.out]; exact hlt)⟩
    have htw : tw[j]? = some t := by rw [TW.rest j (Nat.le_refl _)]; exact ht
    obtain ⟨d0, d1, d2, d3⟩ := cellsT_at htw
    obtain ⟨z0, g0⟩ := TW.row.at d0
    obtain ⟨z1, -⟩ := TW.row.at d1
    obtain ⟨z2, -⟩ := TW.row.at d2
    obtain ⟨z3, -⟩ := TW.row.at d3
    obtain ⟨Y, hY⟩ : ∃ Y, Y = wr.alloc (.cells #[.slice t.a t.ns.length t.c, .int .i64 t.tr, .int .i64 t.wt, .int .i64 t.le] 50) := ⟨_, rfl⟩
    have hBY : Below wr.heap.size wr Y := by rw [hY]; exact (Below.refl _ _).alloc (Nat.le_refl _) _
    have BT : BoxL Y wr.heap.size [.slice t.a t.ns.length t.c, .int .i64 t.tr, .int .i64 t.wt, .int .i64 t.le] := by rw [hY]; exact boxL_new wr [.slice t.a t.ns.length t.c, .int .i64 t.tr, .int .i64 t.wt, .int .i64 t.le] _ rfl
    have hYl : Y.heap.size = wr.heap.size + 1 := by rw [hY]; simp
    have hRl := R.lt
    have hKl := TW.row.lt
    obtain ⟨x, c', wN, cN, hI, hF, hBN⟩ := cloneN_any t.a t.c t.ns.length t.ns Y.drew rfl ((TW.needs t (List.mem_of_getElem? htw)).below hBY.drew) (HNS.out t (List.mem_of_getElem? ht))
    have hBN' : Below Y.heap.size Y wN := Below.tr (Below.refl _ _).drew hBN
    have hBwN : Below wr.heap.size wr wN := Below.tr hBY hBN'
    obtain ⟨wM, hwM⟩ : ∃ wM, wM = wN.setCell ⟨g, j * 4, none⟩ (.slice x t.ns.length c') := ⟨_, rfl⟩
    have tM : Turns (fun k => k = g) wN wM := by rw [hwM]; exact (Turns.refl (fun k => k = g) wN).setCell (p := ⟨g, j * 4, none⟩) rfl _
    have hgw : w.heap.size + 2 ≤ g := hgs2
    have BXM := boxL_turns (BX.below hBwN) tM (by omega)
    have BYM := boxL_turns (BY.below hBwN) tM (by omega)
    have RM := (R.below hBwN).turns tM (by omega)
    have KN := TW.row.below hBwN
    have fz := (KN.at d0).2
    have fc := (KN.at d0).1
    have TM : TwAt w wM g h cap n (j + 1) tv (tw.set j { t with a := x, c := c' }) := by
     refine ⟨by rw [hwM]; exact KN.move htw x c', fun u hu => ?_, ?_, fun i hi => ?_, fun i u hi hu y hy => ?_⟩
     ·
      obtain ⟨i, hi⟩ := List.getElem?_of_mem hu
      by_cases hij : j = i
      ·
       subst hij
       rw [List.getElem?_set_self (List.getElem?_eq_some_iff.1 htw).1] at hi
       cases hi
       exact hI.kept tM fun h0 y hy => by have := hF y hy; show ¬ y.block = g; have : Y.heap.size ≤ y.block := this; omega
      ·
       rw [List.getElem?_set_ne hij] at hi
       refine ((TW.needs u (List.mem_of_getElem? hi)).below hBwN).kept tM fun h0 y hy => ?_
       show ¬ y.block = g
       by_cases hlj : i < j
       ·
        have := TW.own i u hlj hi y hy; omega
       ·
        rw [TW.rest i (by omega)] at hi
        have := HWO.out u (List.mem_of_getElem? hi) h0 y hy
        omega
     ·
      unfold plainT
      rw [List.map_set]
      have : (tw.map TaskV.p)[j]? = some (TaskV.p { t with a := x, c := c' }) := by rw [List.getElem?_map, htw]; rfl
      rw [show (tw.map TaskV.p).set j (TaskV.p { t with a := x, c := c' }) = tw.map TaskV.p from by
       refine List.ext_getElem? fun q => ?_
       by_cases hq : j = q
       ·
        subst hq; rw [List.getElem?_set_self (List.getElem?_eq_some_iff.1 this).1]; exact this.symm
       ·
        rw [List.getElem?_set_ne hq]]
      exact TW.same
     ·
      rw [List.getElem?_set_ne (by omega)]; exact TW.rest i (by omega)
     ·
      by_cases hij : j = i
      ·
       subst hij
       rw [List.getElem?_set_self (List.getElem?_eq_some_iff.1 htw).1] at hu
       cases hu
       have : Y.heap.size ≤ y.block := hF y hy
       omega
      ·
       rw [List.getElem?_set_ne hij] at hu
       exact TW.own i u (by omega) hu y hy
    have hBM : Below w.heap.size w wM := Below.turns (Below.tr hB hBwN) tM (fun i hi => by omega)
    have q2 := (BX.below hBY).1 2 _ rfl
    have q5 := BT.1 0 _ rfl
    have q2N := (BX.below hBwN).1 2 _ rfl
    have q5N := (BT.below hBN').1 0 _ rfl
    have q2M := BXM.1 2 _ rfl
    have q5M := (boxL_turns (BT.below hBN') tM (by omega)).1 0 _ rfl
    have HwM : Hid (wM = wN.setCell ⟨g, j * 4, none⟩ (.slice x t.ns.length c')) := hwM
    obtain ⟨ta, hta⟩ : ∃ ta, ta = t.a := ⟨_, rfl⟩
    obtain ⟨tl, htl⟩ : ∃ tl, tl = t.ns.length := ⟨_, rfl⟩
    obtain ⟨tcc, htcc⟩ : ∃ tcc, tcc = t.c := ⟨_, rfl⟩
    obtain ⟨ttr, httr⟩ : ∃ ttr, ttr = t.tr := ⟨_, rfl⟩
    obtain ⟨twt, htwt⟩ : ∃ twt, twt = t.wt := ⟨_, rfl⟩
    obtain ⟨tle, htle⟩ : ∃ tle, tle = t.le := ⟨_, rfl⟩
    have hb1 : tl ≤ tcc := by rw [htl, htcc]; exact (TW.needs t (List.mem_of_getElem? htw)).1
    have hb2 : tcc ≤ 9223372036854775807 := by rw [htcc]; exact (TW.needs t (List.mem_of_getElem? htw)).2.1
    rw [← hta, ← htl, ← htcc] at cN z0 q5 q5N q5M fc
    rw [← httr] at z1
    rw [← htwt] at z2
    rw [← htle] at z3
    rw [← htl] at HwM
    rw [← hta, ← htl, ← htcc, ← httr, ← htwt, ← htle] at hY
    clear hwM htw ht d0 d1 d2 d3 TW hI hF hBN KN BX BY R hB BT hta htl htcc httr htwt htle hBN' hBwN tM hYl hBY
    go_wp2
    rw [← hY]
    clear hY z0 z1 z2 z3
    refine region_turns (by kernel_rfl) [6, 9] (twV2 w.heap.size g n cap j wr.heap.size ta tl tcc x c') (fun k V => Hid (V = [Y.drew, wN].getD k wM)) (by kernel_rfl) (by kernel_rfl) rfl ?step 10 rfl ?after2
    case step =>
     intro i o ho kk a2 wX hkk hmay hS hdf hsz hdep hsame
     match i, ho with
     | 0, ho =>
      cases ho
      have h1 := hsame 1 rfl
      exact val_op rfl (wanted_free rfl) (by clear hdep hsame hsz hdf; (try simp only [twV2]); go_simp) rfl hS
     | 1, ho =>
      cases ho
      have h24 := hdep 0 _ 24 rfl rfl rfl
      simp only [twV2] at h24
      exact val_op rfl (wanted_free rfl) (by clear hdep hsame hsz hdf; (try simp only [twV2]); go_simp) rfl hS
     | 2, ho =>
      cases ho
      have h25 := hdep 1 _ 25 rfl rfl rfl
      simp only [twV2] at h25
      match kk, hkk, hmay, hS with
      | 0, _, hq, hS => first | (cases hq; done) | ((have hE : wX = Y.drew := hS.out; subst hE); exact val_op rfl (wanted_free rfl) (by clear hdep hsame hsz hdf; (try simp only [twV2]); go_simp) rfl hS)
      | 1, _, hq, hS => first | (cases hq; done) | ((have hE : wX = wN := hS.out; subst hE); exact val_op rfl (wanted_free rfl) (by clear hdep hsame hsz hdf; (try simp only [twV2]); go_simp) rfl hS)
      | 2, _, hq, hS => first | (cases hq; done) | ((have hE : wX = wM := hS.out; subst hE); exact val_op rfl (wanted_free rfl) (by clear hdep hsame hsz hdf; (try simp only [twV2]); go_simp) rfl hS)
      | kk + 3, hkk, _, _ => simp at hkk
     | 3, ho =>
      cases ho
      have h3 := hsame 3 rfl
      exact val_op rfl (wanted_free rfl) (by clear hdep hsame hsz hdf; (try simp only [twV2]); go_simp) rfl hS
     | 4, ho =>
      cases ho
      have h4 := hsame 4 rfl
      exact val_op rfl (wanted_free rfl) (by clear hdep hsame hsz hdf; (try simp only [twV2]); go_simp) rfl hS
     | 5, ho =>
      cases ho
      have h28 := hdep 4 _ 28 rfl rfl rfl
      simp only [twV2] at h28
      match kk, hkk, hmay, hS with
      | 0, _, hq, hS => first | (cases hq; done) | ((have hE : wX = Y.drew := hS.out; subst hE); exact val_op rfl (wanted_free rfl) (by clear hdep hsame hsz hdf; (try simp only [twV2]); go_simp) rfl hS)
      | 1, _, hq, hS => first | (cases hq; done) | ((have hE : wX = wN := hS.out; subst hE); exact val_op rfl (wanted_free rfl) (by clear hdep hsame hsz hdf; (try simp only [twV2]); go_simp) rfl hS)
      | 2, _, hq, hS => first | (cases hq; done) | ((have hE : wX = wM := hS.out; subst hE); exact val_op rfl (wanted_free rfl) (by clear hdep hsame hsz hdf; (try simp only [twV2]); go_simp) rfl hS)
      | kk + 3, hkk, _, _ => simp at hkk
     | 6, ho =>
      cases ho
      have h29 := hdep 5 _ 29 rfl rfl rfl
      simp only [twV2] at h29
      match kk, hkk, hmay, hS with
      | 0, _, _, hS =>
       (have hE : wX = Y.drew := hS.out; subst hE)
       exact val_call rfl (wanted_free rfl) (by clear hdep hsame hsz hdf; (try simp only [twV2]); go_simp) (cN.mono fun e w2 hh => ⟨hh.1, hh.2⟩)
      | 1, _, hq, _ => cases hq
      | 2, _, hq, _ => cases hq
      | kk + 3, hkk, _, _ => simp at hkk
     | 7, ho =>
      cases ho
      have h26 := hdep 2 _ 26 rfl rfl rfl
      have h27 := hdep 3 _ 27 rfl rfl rfl
      simp only [twV2] at h26 h27
      exact val_op rfl (wanted_free rfl) (by clear hdep hsame hsz hdf; (try simp only [twV2]); go_simp) rfl hS
     | 8, ho =>
      cases ho
      have h31 := hdep 7 _ 31 rfl rfl rfl
      simp only [twV2] at h31
      exact val_op rfl (wanted_free rfl) (by clear hdep hsame hsz hdf; (try simp only [twV2]); go_simp) rfl hS
     | 9, ho =>
      cases ho
      have h32 := hdep 8 _ 32 rfl rfl rfl
      have h30 := hdep 6 _ 30 rfl rfl rfl
      simp only [twV2] at h32 h30
      match kk, hkk, hmay, hS with
      | 0, _, hq, _ => cases hq
      | 1, _, _, hS =>
       (have hE : wX = wN := hS.out; subst hE)
       exact val_skip (w' := _) rfl (wanted_free rfl) rfl (by clear hdep hsame hsz hdf; (try simp only [twV2]); go_simp) (HwM.out.symm)
      | 2, _, hq, _ => cases hq
      | kk + 3, hkk, _, _ => simp at hkk
     | kk + 10, ho => simp at ho
    case after2 =>
     rintro V3 hV
     have hE : V3 = wM := hV.out
     clear hV
     subst hE
     simp [filledN, twV2]
     clear q2 q5 q2N q5N q2M q5M HwM cN fz fc
     go_wp2
     go_roundw
     case rel => exact ⟨j + 1, by omega, by go_num, BXM, BYM, RM, ⟨_, TM⟩, hBM⟩
     case measure => simp [intOf]; omega
   ·
    obtain rfl : n = j := by omega
    have hx : ¬ (n : Int) < n := by omega
    have HE : Hid (TwAt w wr g h cap n n tv tw) := TW
    obtain ⟨Z, hZ⟩ : ∃ Z, Z = ((((wr.setCell ⟨w.heap.size + 1, 0, none⟩ (.string ky)).setCell ⟨w.heap.size + 1, 1, none⟩ (.string nm)).setCell ⟨w.heap.size + 1, 2, none⟩ (.slice (some ⟨g, 0, none⟩) n cap)).setCell ⟨w.heap.size + 1, 3, none⟩ (.int .i64 is)).setCell ⟨w.heap.size + 1, 4, none⟩ (.slice (some ⟨h, 0, none⟩) n capS) := ⟨_, rfl⟩
    have BZ : BoxL Z (w.heap.size + 1) [.string ky, .string nm, .slice (some ⟨g, 0, none⟩) n cap, .int .i64 is, .slice (some ⟨h, 0, none⟩) n capS] := by rw [hZ]; exact boxL_set5 BY _ _ _ _ _
    have TZ : Turns (fun k => k = w.heap.size + 1) wr Z := by rw [hZ]; exact turns_set5 _ _ _ _ _ _ _
    have x0 := BX.1 0 _ rfl
    have x1 := BX.1 1 _ rfl
    have x2 := BX.1 2 _ rfl
    have x3 := BX.1 3 _ rfl
    have x4 := BX.1 4 _ rfl
    have v0 := BY.1 0 _ rfl
    have v1 := BY.1 1 _ rfl
    have v2 := BY.1 2 _ rfl
    have v3 := BY.1 3 _ rfl
    have v4 := BY.1 4 _ rfl
    have d0 := BY.2 0 (by simp)
    have d1 := BY.2 1 (by simp)
    have d2 := BY.2 2 (by simp)
    have d3 := BY.2 3 (by simp)
    have d4 := BY.2 4 (by simp)
    have r0 := BZ.1 0 _ rfl
    have r1 := BZ.1 1 _ rfl
    have r2 := BZ.1 2 _ rfl
    have r3 := BZ.1 3 _ rfl
    have r4 := BZ.1 4 _ rfl
    have HF : Hid (plainT tw = plainT tv ∧ OwnRun Z w.heap.size g h n cap capS tw ss ∧ Below w.heap.size w Z) := by
     have hlen : tw.length = n := by
      have := congrArg List.length TW.same
      rw [plainT_length, plainT_length] at this
      rw [this]; exact HTN.out.symm
     have hgw : w.heap.size + 2 ≤ g := hgs2
     have hgh2 : g < h := by have := HB.out; omega
     have NZ : NeedsIn Z tw := fun u hu => by
      obtain ⟨i, hi⟩ := List.getElem?_of_mem hu
      have hin : i < n := by rw [← hlen]; exact (List.getElem?_eq_some_iff.1 hi).1
      exact (TW.needs u hu).kept TZ fun h0 y hy => by have := TW.own i u hin hi y hy; show ¬ y.block = w.heap.size + 1; omega
     have KZ : RowK Z g cap tw := by
      rw [hZ]
      exact ((((TW.row.other (by omega)).other (by omega)).other (by omega)).other (by omega)).other (by omega)
     refine ⟨TW.same, ⟨KZ.isT NZ, R.turns TZ (by omega), fun u hu y hy => ?_, hgh2, by omega, hlen.symm, HN.out⟩, Below.turns hB TZ (fun i hi => by omega)⟩
     obtain ⟨i, hi⟩ := List.getElem?_of_mem hu
     have hin : i < n := by rw [← hlen]; exact (List.getElem?_eq_some_iff.1 hi).1
     exact TW.own i u hin hi y hy
    clear TW BX BY R hB BZ TZ HE
    go_wp2
    rw [← hZ]
    refine bodyPost_ret (v := .agg #[.string ky, .string nm, .slice (some ⟨g, 0, none⟩) n cap, .int .i64 is, .slice (some ⟨h, 0, none⟩) n capS]) (by simp [results, Try.results31, go_sem, r0, r1, r2, r3, r4]) rfl ⟨g, h, cap, capS, rfl, tw, HF.out.1, HF.out.2.1, HF.out.2.2⟩
end Go.Proofs.Ytdpljpjbomhccaa
namespace Go.Proofs.Ytdpljpjbomhccaa
open Go.RowKit Plain
set_option linter.unusedVariables false
theorem untZ_any (now x : Int) (W : World) (z : Nat) (hz : z = W.heap.size) :
  Calls Try.prog 79 #[.int .i64 now, .slice (some ⟨z, 0, none⟩) 1 1] (W.alloc (.cells #[.int .i64 x] 3)) fun e w' => e = .returned (.int .i64 (untF now [x])) ∧ W.alloc (.cells #[.int .i64 x] 3) = w' := by
 subst hz
 exact waitUntil_any now _ 1 1 [x] _ (isI_one W x) rfl
set_option maxRecDepth 20000 in
set_option maxHeartbeats 1000000 in
theorem readyT_any (i t d k : Int) (r : ByteArray) (w : World) :
  Calls Try.prog 72 #[.agg #[.int .i64 i, .int .i64 t, .int .i64 d, .int .i64 k, .string r]] w fun e w' => e = .returned (vT (readyT ⟨i, t, d, k, r⟩)) ∧ Below w.heap.size w w' := by
 by_cases h : i = 0
 ·
  subst h
  rw [show readyT ⟨0, t, d, k, r⟩ = ⟨1, t, d, k, r⟩ from if_pos rfl]
  go_enter Try.func72, Try.ntmps72
  go_wp2
  exact bodyPost_ret (v := .agg #[.int .i64 1, .int .i64 t, .int .i64 d, .int .i64 k, .string r]) (by simp [results, Try.results72, go_sem]) rfl ⟨rfl, bel2 _ _ _⟩
 ·
  rw [show readyT ⟨i, t, d, k, r⟩ = ⟨i, t, d, k, r⟩ from if_neg h]
  have h' : (i == 0) = false := by simpa using h
  go_enter Try.func72, Try.ntmps72
  go_wp2
  exact bodyPost_ret (v := .agg #[.int .i64 i, .int .i64 t, .int .i64 d, .int .i64 k, .string r]) (by simp [results, Try.results72, go_sem]) rfl ⟨rfl, bel2 _ _ _⟩
set_option maxRecDepth 20000 in
set_option maxHeartbeats 1000000 in
theorem cancelT_any (i t d k : Int) (r : ByteArray) (w : World) :
  Calls Try.prog 87 #[.agg #[.int .i64 i, .int .i64 t, .int .i64 d, .int .i64 k, .string r]] w fun e w' => e = .returned (vT (cancelT ⟨i, t, d, k, r⟩)) ∧ Below w.heap.size w w' := by
 by_cases h0 : i = 0
 ·
  subst h0
  rw [show cancelT ⟨0, t, d, k, r⟩ = ⟨5, t, 0, 0, r⟩ from if_pos (.inl rfl)]
  go_enter Try.func87, Try.ntmps87
  go_wp2
  exact bodyPost_ret (v := .agg #[.int .i64 5, .int .i64 t, .int .i64 0, .int .i64 0, .string r]) (by simp [results, Try.results87, go_sem]) rfl ⟨rfl, bel2 _ _ _⟩
 by_cases h1 : i = 1
 ·
  subst h1
  rw [show cancelT ⟨1, t, d, k, r⟩ = ⟨5, t, 0, 0, r⟩ from if_pos (.inr (.inl rfl))]
  go_enter Try.func87, Try.ntmps87
  go_wp2
  exact bodyPost_ret (v := .agg #[.int .i64 5, .int .i64 t, .int .i64 0, .int .i64 0, .string r]) (by simp [results, Try.results87, go_sem]) rfl ⟨rfl, bel2 _ _ _⟩
 by_cases h2 : i = 2
 ·
  subst h2
  rw [show cancelT ⟨2, t, d, k, r⟩ = ⟨5, t, 0, 0, r⟩ from if_pos (.inr (.inr rfl))]
  go_enter Try.func87, Try.ntmps87
  go_wp2
  exact bodyPost_ret (v := .agg #[.int .i64 5, .int .i64 t, .int .i64 0, .int .i64 0, .string r]) (by simp [results, Try.results87, go_sem]) rfl ⟨rfl, bel2 _ _ _⟩
 rw [show cancelT ⟨i, t, d, k, r⟩ = ⟨i, t, d, k, r⟩ from if_neg (fun h => h.elim h0 fun h => h.elim h1 h2)]
 have g0 : (i == 0) = false := by simpa using h0
 have g1 : (i == 1) = false := by simpa using h1
 have g2 : (i == 2) = false := by simpa using h2
 go_enter Try.func87, Try.ntmps87
 go_wp2
 exact bodyPost_ret (v := .agg #[.int .i64 i, .int .i64 t, .int .i64 d, .int .i64 k, .string r]) (by simp [results, Try.results87, go_sem]) rfl ⟨rfl, bel2 _ _ _⟩
set_option maxRecDepth 20000 in
set_option maxHeartbeats 1000000 in
theorem beatT_any (ta : Option Addr) (tl tc : Nat) (tr wt le : Int) (i t d k : Int) (r : ByteArray) (now : Int) (w : World) :
  Calls Try.prog 58 #[.agg #[.slice ta tl tc, .int .i64 tr, .int .i64 wt, .int .i64 le], .agg #[.int .i64 i, .int .i64 t, .int .i64 d, .int .i64 k, .string r], .int .i64 now] w fun e w' => e = .returned (.tuple #[vT (beatT le ⟨i, t, d, k, r⟩ now), .int .i64 (heldE ⟨i, t, d, k, r⟩)]) ∧ Below w.heap.size w w' := by
 by_cases h : i = 2
 ·
  subst h
  have cU := fun W z hz => untZ_any now le W z hz
  rw [show beatT le ⟨2, t, d, k, r⟩ now = ⟨2, t, untF now [le], k, r⟩ from if_pos rfl, show heldE ⟨2, t, d, k, r⟩ = 0 from if_pos rfl]
  generalize untF now [le] = u at *
  go_enter Try.func58, Try.ntmps58
  go_wp2_with (go_at_call 79; refine (cU _ _ (by simp)).mono ?_; rintro e w' ⟨rfl, rfl⟩)
  exact bodyPost_ret (v := .tuple #[.agg #[.int .i64 2, .int .i64 t, .int .i64 u, .int .i64 k, .string r], .int .i64 0]) (by simp [results, Try.results58, go_sem]) rfl ⟨rfl, bel4 _ _ _ _ _⟩
 ·
  rw [show beatT le ⟨i, t, d, k, r⟩ now = zeroT from if_neg h, show heldE ⟨i, t, d, k, r⟩ = 191 from if_neg h]
  have h' : (i != 2) = true := by simpa using h
  go_enter Try.func58, Try.ntmps58
  go_wp2
  exact bodyPost_ret (v := .tuple #[.agg #[.int .i64 0, .int .i64 0, .int .i64 0, .int .i64 0, .string ⟨#[]⟩], .int .i64 191]) (by simp [results, Try.results58, go_sem]) rfl ⟨rfl, bel3 _ _ _ _⟩
set_option maxRecDepth 20000 in
set_option maxHeartbeats 1000000 in
theorem doneT_any (ta : Option Addr) (tl tc : Nat) (tr wt le : Int) (i t d k : Int) (r x : ByteArray) (w : World) (hx : x.size ≤ maxLen) :
  Calls Try.prog 60 #[.agg #[.slice ta tl tc, .int .i64 tr, .int .i64 wt, .int .i64 le], .agg #[.int .i64 i, .int .i64 t, .int .i64 d, .int .i64 k, .string r], .string x] w fun e w' => e = .returned (.tuple #[vT (doneT ⟨i, t, d, k, r⟩ x), .int .i64 (doneE ⟨i, t, d, k, r⟩ x)]) ∧ Below w.heap.size w w' := by
 have hxi : x.size ≤ 9223372036854775807 := hx
 by_cases h : i = 2
 ·
  subst h
  by_cases hs : x.size ≤ 16
  ·
   have hs' : ¬ (16 : Int) < x.size := by omega
   rw [show doneT ⟨2, t, d, k, r⟩ x = ⟨3, t, 0, 0, x⟩ by unfold doneT; rw [if_pos rfl, if_pos hs], show doneE ⟨2, t, d, k, r⟩ x = 0 by unfold doneE; rw [if_pos rfl, if_pos hs]]
   go_enter Try.func60, Try.ntmps60
   go_wp2
   exact bodyPost_ret (v := .tuple #[.agg #[.int .i64 3, .int .i64 t, .int .i64 0, .int .i64 0, .string x], .int .i64 0]) (by simp [results, Try.results60, go_sem]) rfl ⟨rfl, bel3 _ _ _ _⟩
  ·
   have hs' : (16 : Int) < x.size := by omega
   rw [show doneT ⟨2, t, d, k, r⟩ x = zeroT by unfold doneT; rw [if_pos rfl, if_neg hs], show doneE ⟨2, t, d, k, r⟩ x = 1 by unfold doneE; rw [if_pos rfl, if_neg hs]]
   go_enter Try.func60, Try.ntmps60
   go_wp2
   exact bodyPost_ret (v := .tuple #[.agg #[.int .i64 0, .int .i64 0, .int .i64 0, .int .i64 0, .string ⟨#[]⟩], .int .i64 1]) (by simp [results, Try.results60, go_sem]) rfl ⟨rfl, bel3 _ _ _ _⟩
 ·
  rw [show doneT ⟨i, t, d, k, r⟩ x = zeroT from if_neg h, show doneE ⟨i, t, d, k, r⟩ x = 191 from if_neg h]
  have h' : (i != 2) = true := by simpa using h
  go_enter Try.func60, Try.ntmps60
  go_wp2
  exact bodyPost_ret (v := .tuple #[.agg #[.int .i64 0, .int .i64 0, .int .i64 0, .int .i64 0, .string ⟨#[]⟩], .int .i64 191]) (by simp [results, Try.results60, go_sem]) rfl ⟨rfl, bel3 _ _ _ _⟩
set_option maxRecDepth 20000 in
set_option maxHeartbeats 1000000 in
theorem failLow_any (ta : Option Addr) (tl tc : Nat) (tr wt le : Int) (t d k : Int) (r : ByteArray) (now : Int) (w : World) (ht : t ≤ 9223372036854775807) (hl : t < tr) :
  Calls Try.prog 62 #[.agg #[.slice ta tl tc, .int .i64 tr, .int .i64 wt, .int .i64 le], .agg #[.int .i64 2, .int .i64 t, .int .i64 d, .int .i64 k, .string r], .int .i64 now] w fun e w' => e = .returned (.tuple #[.agg #[.int .i64 1, .int .i64 t, .int .i64 (untF now [afterF wt t]), .int .i64 0, .string r], .int .i64 0]) ∧ w' = (((w.alloc (.cells #[.slice ta tl tc, .int .i64 tr, .int .i64 wt, .int .i64 le] 50)).alloc (.cells #[.int .i64 1, .int .i64 t, .int .i64 (untF now [afterF wt t]), .int .i64 0, .string r] 52)).alloc (.cells #[.int .i64 1, .int .i64 t, .int .i64 (untF now [afterF wt t]), .int .i64 0, .string r] 52)).alloc (.cells #[.int .i64 (afterF wt t)] 3) := by
 have cA := fun W => waitAfter_any wt t W ht
 have cU := fun W z hz => untZ_any now (afterF wt t) W z hz
 generalize untF now [afterF wt t] = u at *
 generalize afterF wt t = v at *
 go_enter Try.func62, Try.ntmps62
 go_wp2_with (first
  | (go_at_call 89; refine (cA _).mono ?_; rintro e w' ⟨rfl, rfl⟩)
  | (go_at_call 79; refine (cU _ _ (by simp)).mono ?_; rintro e w' ⟨rfl, rfl⟩))
 exact bodyPost_ret (v := .tuple #[.agg #[.int .i64 1, .int .i64 t, .int .i64 u, .int .i64 0, .string r], .int .i64 0]) (by simp [results, Try.results62, go_sem]) rfl ⟨rfl, rfl⟩
set_option maxRecDepth 20000 in
set_option maxHeartbeats 1000000 in
theorem failHigh_any (ta : Option Addr) (tl tc : Nat) (tr wt le : Int) (t d k : Int) (r : ByteArray) (now : Int) (w : World) (hl : ¬ t < tr) :
  Calls Try.prog 62 #[.agg #[.slice ta tl tc, .int .i64 tr, .int .i64 wt, .int .i64 le], .agg #[.int .i64 2, .int .i64 t, .int .i64 d, .int .i64 k, .string r], .int .i64 now] w fun e w' => e = .returned (.tuple #[.agg #[.int .i64 4, .int .i64 t, .int .i64 0, .int .i64 0, .string r], .int .i64 0]) ∧ w' = ((w.alloc (.cells #[.slice ta tl tc, .int .i64 tr, .int .i64 wt, .int .i64 le] 50)).alloc (.cells #[.int .i64 4, .int .i64 t, .int .i64 0, .int .i64 0, .string r] 52)).alloc (.cells #[.int .i64 4, .int .i64 t, .int .i64 0, .int .i64 0, .string r] 52) := by
 go_enter Try.func62, Try.ntmps62
 go_wp2
 exact bodyPost_ret (v := .tuple #[.agg #[.int .i64 4, .int .i64 t, .int .i64 0, .int .i64 0, .string r], .int .i64 0]) (by simp [results, Try.results62, go_sem]) rfl ⟨rfl, rfl⟩
set_option maxRecDepth 20000 in
set_option maxHeartbeats 1000000 in
theorem failT_any (ta : Option Addr) (tl tc : Nat) (tr wt le : Int) (i t d k : Int) (r : ByteArray) (now : Int) (w : World) (ht : t ≤ 9223372036854775807) :
  Calls Try.prog 62 #[.agg #[.slice ta tl tc, .int .i64 tr, .int .i64 wt, .int .i64 le], .agg #[.int .i64 i, .int .i64 t, .int .i64 d, .int .i64 k, .string r], .int .i64 now] w fun e w' => e = .returned (.tuple #[vT (failT tr wt ⟨i, t, d, k, r⟩ now), .int .i64 (heldE ⟨i, t, d, k, r⟩)]) ∧ Below w.heap.size w w' := by
 by_cases h : i = 2
 ·
  subst h
  rw [show heldE ⟨2, t, d, k, r⟩ = 0 from if_pos rfl]
  by_cases hl : t < tr
  ·
   rw [show failT tr wt ⟨2, t, d, k, r⟩ now = ⟨1, t, untF now [afterF wt t], 0, r⟩ by unfold failT; rw [if_pos rfl, if_pos hl]]
   exact (failLow_any ta tl tc tr wt le t d k r now w ht hl).mono fun e w' hh => ⟨hh.1, by rw [hh.2]; exact bel4 _ _ _ _ _⟩
  ·
   rw [show failT tr wt ⟨2, t, d, k, r⟩ now = ⟨4, t, 0, 0, r⟩ by unfold failT; rw [if_pos rfl, if_neg hl]]
   exact (failHigh_any ta tl tc tr wt le t d k r now w hl).mono fun e w' hh => ⟨hh.1, by rw [hh.2]; exact bel3 _ _ _ _⟩
 ·
  rw [show failT tr wt ⟨i, t, d, k, r⟩ now = zeroT from if_neg h, show heldE ⟨i, t, d, k, r⟩ = 191 from if_neg h]
  have h' : (i != 2) = true := by simpa using h
  go_enter Try.func62, Try.ntmps62
  go_wp2
  exact bodyPost_ret (v := .tuple #[.agg #[.int .i64 0, .int .i64 0, .int .i64 0, .int .i64 0, .string ⟨#[]⟩], .int .i64 191]) (by simp [results, Try.results62, go_sem]) rfl ⟨rfl, bel3 _ _ _ _⟩
end Go.Proofs.Ytdpljpjbomhccaa
namespace Go.Proofs.Ytdpljpjbomhccaa
open Go.RowKit Plain Anylast
set_option linter.unusedVariables false
def cancelTo (ss : List StP) (j : Nat) : List StP := (ss.take j).map cancelT ++ ss.drop j
theorem cancelTo_zero (ss : List StP) : cancelTo ss 0 = ss := by simp [cancelTo]
theorem cancelTo_all (ss : List StP) : cancelTo ss ss.length = ss.map cancelT := by simp [cancelTo]
theorem cancelTo_length (ss : List StP) (j : Nat) : (cancelTo ss j).length = ss.length := by simp [cancelTo]; omega
theorem cancelTo_at {ss : List StP} {j : Nat} {s : StP} (h : ss[j]? = some s) : (cancelTo ss j)[j]? = some s := by
 have hj := (List.getElem?_eq_some_iff.1 h).1
 unfold cancelTo
 rw [List.getElem?_append_right (by simp; omega), List.length_map, List.length_take, Nat.min_eq_left (by omega), Nat.sub_self, List.getElem?_drop, Nat.add_zero]
 exact h
theorem cancelTo_succ {ss : List StP} {j : Nat} {s : StP} (h : ss[j]? = some s) : cancelTo ss (j + 1) = (cancelTo ss j).set j (cancelT s) := by
 have hj := (List.getElem?_eq_some_iff.1 h).1
 unfold cancelTo
 rw [List.take_add_one, h, List.map_append, List.set_append_right _ _ (by simp; omega), List.length_map, List.length_take, Nat.min_eq_left (by omega), Nat.sub_self, List.drop_eq_getElem_cons hj, List.set_cons_zero, List.append_assoc]
 rfl
def endV (z b o n c j : Nat) (s x : StP) : Nat → Value
 | 0 => .pointer (some ⟨z, 4, none⟩)
 | 1 => .slice (some ⟨b, o, none⟩) n c
 | 2 => .int .i64 j
 | 3 => vT s
 | 4 => vT x
 | 5 => .pointer (some ⟨b, o + j * 5, none⟩)
 | _ => undef
set_option maxRecDepth 20000 in
set_option maxHeartbeats 2000000 in
theorem ended_any (ky nm : ByteArray) (ta : Option Addr) (tn tc : Nat) (is k2 : Int) (b o n sc : Nat) (ss : List StP) (w : World) (hR : RowZ w b o sc ss) (hn : n = ss.length) :
  Calls Try.prog 52 #[.agg #[.string ky, .string nm, .slice ta tn tc, .int .i64 is, .slice (some ⟨b, o, none⟩) n sc], .int .i64 k2] w fun e w' => e = .returned (.agg #[.string ky, .string nm, .slice ta tn tc, .int .i64 k2, .slice (some ⟨b, o, none⟩) n sc]) ∧ RowZ w' b o sc (ss.map cancelT) ∧ Turns (fun k => k = b) w w' := by
 have hbl := hR.lt
 have hnm : n ≤ 9223372036854775807 := by rw [hn]; exact hR.isZ.size
 have hnc : n ≤ sc := by rw [hn]; exact hR.isZ.1
 have hcm : sc ≤ 9223372036854775807 := hR.isZ.2.1
 have cC := cancelT_any
 obtain ⟨W0, hW0⟩ : ∃ W0, W0 = (w.alloc (.cells #[.string ky, .string nm, .slice ta tn tc, .int .i64 is, .slice (some ⟨b, o, none⟩) n sc] 27)).alloc (.cells #[.string ⟨#[]⟩, .string ⟨#[]⟩, .slice none 0 0, .int .i64 0, .slice none 0 0] 27) := ⟨_, rfl⟩
 have hB0 : Below w.heap.size w W0 := by rw [hW0]; exact bel2 w _ _
 have BX : BoxL W0 w.heap.size [.string ky, .string nm, .slice ta tn tc, .int .i64 is, .slice (some ⟨b, o, none⟩) n sc] := by rw [hW0]; exact (boxL_new w [.string ky, .string nm, .slice ta tn tc, .int .i64 is, .slice (some ⟨b, o, none⟩) n sc] _ rfl).alloc _
 have BY : BoxL W0 (w.heap.size + 1) [.string ⟨#[]⟩, .string ⟨#[]⟩, .slice none 0 0, .int .i64 0, .slice none 0 0] := by rw [hW0]; exact boxL_new _ [.string ⟨#[]⟩, .string ⟨#[]⟩, .slice none 0 0, .int .i64 0, .slice none 0 0] _ (by simp)
 have R0 : RowZ W0 b o sc (cancelTo ss 0) := by rw [cancelTo_zero]; exact hR.below hB0
 have T0 : Turns (fun k => k = b) w W0 := Turns.of_below hB0
 have x4 := BX.1 4 _ rfl
 rw [hW0] at x4
 have HN : Hid (n = ss.length) := hn
 clear hR hn hB0
 go_enter Try.func52, Try.ntmps52
 go_wp2
 rw [← hW0]
 clear hW0 x4
 go_loopw [10] (fun v wr => ∃ j : Nat, j ≤ n ∧ v = .int .i64 j ∧ BoxL wr w.heap.size [.string ky, .string nm, .slice ta tn tc, .int .i64 is, .slice (some ⟨b, o, none⟩) n sc] ∧ BoxL wr (w.heap.size + 1) [.string ⟨#[]⟩, .string ⟨#[]⟩, .slice none 0 0, .int .i64 0, .slice none 0 0] ∧ RowZ wr b o sc (cancelTo ss j) ∧ Turns (fun k => k = b) w wr) (fun v _ => n - (intOf v).toNat)
 case atStart => exact ⟨0, Nat.zero_le _, rfl, BX, BY, R0, T0⟩
 case round =>
  clear BX BY R0 T0
  obtain ⟨j, hj, rfl, BX, BY, R, T⟩ := hrel
  by_cases hlt : j < n
  ·
   have hlt' : (j : Int) < n := by omega
   obtain ⟨s, hs⟩ : ∃ s, ss[j]? = some s := ⟨_, List.getElem?_eq_getElem (by rw [← HN.out]; exact hlt)⟩
   obtain ⟨z0, z1, z2, z3, z4⟩ := R.at (cancelTo_at hs)
   have hsx := cancel_text (R.isZ.text (cancelTo_at hs))
   have hcur := cancelTo_at hs
   have hjl : j < (cancelTo ss j).length := by rw [cancelTo_length, ← HN.out]; exact hlt
   obtain ⟨Y, hY⟩ : ∃ Y, Y = wr.alloc (.cells #[.int .i64 s.i, .int .i64 s.t, .int .i64 s.d, .int .i64 s.k, .string s.r] 52) := ⟨_, rfl⟩
   have BS : BoxL Y wr.heap.size [.int .i64 s.i, .int .i64 s.t, .int .i64 s.d, .int .i64 s.k, .string s.r] := by rw [hY]; exact boxL_new wr _ _ rfl
   have BXY : BoxL Y w.heap.size [.string ky, .string nm, .slice ta tn tc, .int .i64 is, .slice (some ⟨b, o, none⟩) n sc] := by rw [hY]; exact BX.alloc _
   have BYY : BoxL Y (w.heap.size + 1) [.string ⟨#[]⟩, .string ⟨#[]⟩, .slice none 0 0, .int .i64 0, .slice none 0 0] := by rw [hY]; exact BY.alloc _
   have RY : RowZ Y b o sc (cancelTo ss j) := by rw [hY]; exact R.below ((Below.refl _ _).alloc (Nat.le_refl _) _)
   have TY : Turns (fun k => k = b) w Y := by rw [hY]; exact T.alloc _
   have hzb : wr.heap.size ≠ b := fun h => by have := R.lt; omega
   have hxb : w.heap.size ≠ b := by omega
   have hyb : w.heap.size + 1 ≠ b := by omega
   have HS : Hid (cancelTo ss (j + 1) = (cancelTo ss j).set j (cancelT s)) := cancelTo_succ hs
   clear hs BX BY R T
   obtain ⟨si, st, sd, sk, sr⟩ := s
   dsimp only at *
   go_wp2
   rw [← hY]
   clear hY z0 z1 z2 z3 z4
   have f4 := BXY.1 4 _ rfl
   have f5 := BS.1 0 _ rfl
   have f6 := BS.1 1 _ rfl
   have f7 := BS.1 2 _ rfl
   have f8 := BS.1 3 _ rfl
   have f9 := BS.1 4 _ rfl
   refine region_turns (by kernel_rfl) [6] (endV w.heap.size b o n sc j ⟨si, st, sd, sk, sr⟩ (cancelT ⟨si, st, sd, sk, sr⟩)) (StoreS Y b o sc (cancelTo ss j) j (cancelT ⟨si, st, sd, sk, sr⟩)) (by kernel_rfl) (by kernel_rfl) (Below.refl _ _).drew ?step 7 rfl ?done
   case step =>
    intro i o ho kk a2 wX hkk hmay hS hdf hsz hdep hsame
    match i, ho with
    | 0, ho =>
     cases ho
     have h2 := hsame 2 rfl
     exact val_op rfl (wanted_free rfl) (by clear hdep hsame hsz hdf; (try simp only [endV]); go_simp) rfl hS
    | 1, ho =>
     cases ho
     have h15 := hdep 0 _ 15 rfl rfl rfl
     simp only [endV] at h15
     match kk, hkk, hmay, hS with
     | 0, _, hq, hS => first | (cases hq; done) | ((have g4 := cell_below hS f4; have g5 := cell_below hS f5; have g6 := cell_below hS f6; have g7 := cell_below hS f7; have g8 := cell_below hS f8; have g9 := cell_below hS f9; obtain ⟨p0, p1, p2, p3, p4⟩ := (RY.below hS).at hcur; obtain ⟨r0, r1, r2, r3, r4⟩ := (RY.below hS).frees hjl); exact val_op rfl (wanted_free rfl) (by clear hdep hsame hsz hdf; (try simp only [endV]); go_simp) rfl hS)
     | 1, _, hq, hS => first | (cases hq; done) | ((have g4 := hS.1.cell (p := ⟨w.heap.size, 4, none⟩) hxb f4; have g5 := hS.1.cell (p := ⟨wr.heap.size, 0, none⟩) hzb f5; have g6 := hS.1.cell (p := ⟨wr.heap.size, 1, none⟩) hzb f6; have g7 := hS.1.cell (p := ⟨wr.heap.size, 2, none⟩) hzb f7; have g8 := hS.1.cell (p := ⟨wr.heap.size, 3, none⟩) hzb f8; have g9 := hS.1.cell (p := ⟨wr.heap.size, 4, none⟩) hzb f9); exact val_op rfl (wanted_free rfl) (by clear hdep hsame hsz hdf; (try simp only [endV]); go_simp) rfl hS)
     | kk + 2, hkk, _, _ => simp at hkk
    | 2, ho =>
     cases ho
     have h5 := hsame 5 rfl
     exact val_op rfl (wanted_free rfl) (by clear hdep hsame hsz hdf; (try simp only [endV]); go_simp) rfl hS
    | 3, ho =>
     cases ho
     have h6 := hsame 6 rfl
     match kk, hkk, hmay, hS with
     | 0, _, hq, hS => first | (cases hq; done) | ((have g4 := cell_below hS f4; have g5 := cell_below hS f5; have g6 := cell_below hS f6; have g7 := cell_below hS f7; have g8 := cell_below hS f8; have g9 := cell_below hS f9; obtain ⟨p0, p1, p2, p3, p4⟩ := (RY.below hS).at hcur; obtain ⟨r0, r1, r2, r3, r4⟩ := (RY.below hS).frees hjl); exact val_op rfl (wanted_free rfl) (by clear hdep hsame hsz hdf; (try simp only [endV]); go_simp) rfl hS)
     | 1, _, hq, hS => first | (cases hq; done) | ((have g4 := hS.1.cell (p := ⟨w.heap.size, 4, none⟩) hxb f4; have g5 := hS.1.cell (p := ⟨wr.heap.size, 0, none⟩) hzb f5; have g6 := hS.1.cell (p := ⟨wr.heap.size, 1, none⟩) hzb f6; have g7 := hS.1.cell (p := ⟨wr.heap.size, 2, none⟩) hzb f7; have g8 := hS.1.cell (p := ⟨wr.heap.size, 3, none⟩) hzb f8; have g9 := hS.1.cell (p := ⟨wr.heap.size, 4, none⟩) hzb f9); exact val_op rfl (wanted_free rfl) (by clear hdep hsame hsz hdf; (try simp only [endV]); go_simp) rfl hS)
     | kk + 2, hkk, _, _ => simp at hkk
    | 4, ho =>
     cases ho
     have h18 := hdep 3 _ 18 rfl rfl rfl
     simp only [endV] at h18
     match kk, hkk, hmay, hS with
     | 0, _, hq, hS => first | (cases hq; done) | ((have g4 := cell_below hS f4; have g5 := cell_below hS f5; have g6 := cell_below hS f6; have g7 := cell_below hS f7; have g8 := cell_below hS f8; have g9 := cell_below hS f9; obtain ⟨p0, p1, p2, p3, p4⟩ := (RY.below hS).at hcur; obtain ⟨r0, r1, r2, r3, r4⟩ := (RY.below hS).frees hjl); exact val_call rfl (wanted_free rfl) (by clear hdep hsame hsz hdf; (try simp only [endV]); go_simp) ((cC si st sd sk sr wX).mono fun e w2 hh => ⟨hh.1, Below.tr hS hh.2⟩))
     | 1, _, hq, hS => first | (cases hq; done) | ((have g4 := hS.1.cell (p := ⟨w.heap.size, 4, none⟩) hxb f4; have g5 := hS.1.cell (p := ⟨wr.heap.size, 0, none⟩) hzb f5; have g6 := hS.1.cell (p := ⟨wr.heap.size, 1, none⟩) hzb f6; have g7 := hS.1.cell (p := ⟨wr.heap.size, 2, none⟩) hzb f7; have g8 := hS.1.cell (p := ⟨wr.heap.size, 3, none⟩) hzb f8; have g9 := hS.1.cell (p := ⟨wr.heap.size, 4, none⟩) hzb f9); exact val_call rfl (wanted_free rfl) (by clear hdep hsame hsz hdf; (try simp only [endV]); go_simp) ((cC si st sd sk sr wX).mono fun e w2 hh => ⟨hh.1, Below.tr hS hh.2⟩))
     | kk + 2, hkk, _, _ => simp at hkk
    | 5, ho =>
     cases ho
     have h16 := hdep 1 _ 16 rfl rfl rfl
     have h17 := hdep 2 _ 17 rfl rfl rfl
     simp only [endV] at h16 h17
     exact val_op rfl (wanted_free rfl) (by clear hdep hsame hsz hdf; (try simp only [endV]); go_simp) rfl hS
    | 6, ho =>
     cases ho
     have h20 := hdep 5 _ 20 rfl rfl rfl
     have h19 := hdep 4 _ 19 rfl rfl rfl
     simp only [endV] at h20 h19
     match kk, hkk, hmay, hS with
     | 0, _, _, hS =>
      (have g4 := cell_below hS f4; have g5 := cell_below hS f5; have g6 := cell_below hS f6; have g7 := cell_below hS f7; have g8 := cell_below hS f8; have g9 := cell_below hS f9; obtain ⟨p0, p1, p2, p3, p4⟩ := (RY.below hS).at hcur; obtain ⟨r0, r1, r2, r3, r4⟩ := (RY.below hS).frees hjl)
      exact val_skip (w' := put5 wX b (o + j * 5) (cancelT ⟨si, st, sd, sk, sr⟩)) rfl (wanted_free rfl) rfl (by clear hdep hsame hsz hdf; (try simp only [endV]); go_simp) (storeS_put RY hjl hsx hS)
     | 1, _, hq, _ => cases hq
     | kk + 2, hkk, _, _ => simp at hkk
    | kk + 7, ho => simp at ho
   case done =>
    intro V hV
    obtain ⟨tV, rV⟩ := hV
    simp only [filledN, endV]
    go_wp2
    go_roundw
    case rel => exact ⟨j + 1, by omega, by go_num, boxL_turns BXY tV hxb, boxL_turns BYY tV hyb, by rw [HS.out]; exact rV, TY.trans tV⟩
    case measure => simp [intOf]; omega
  ·
   obtain rfl : n = j := by omega
   have hx : ¬ (n : Int) < n := by omega
   have x0 := BX.1 0 _ rfl
   have x1 := BX.1 1 _ rfl
   have x2 := BX.1 2 _ rfl
   have x3 := BX.1 3 _ rfl
   have x4 := BX.1 4 _ rfl
   obtain ⟨Z1, hZ1⟩ : ∃ Z1, Z1 = wr.setCell ⟨w.heap.size, 3, none⟩ (.int .i64 k2) := ⟨_, rfl⟩
   have BX1 : BoxL Z1 w.heap.size [.string ky, .string nm, .slice ta tn tc, .int .i64 k2, .slice (some ⟨b, o, none⟩) n sc] := by rw [hZ1]; exact BX.set 3 _
   have BY1 : BoxL Z1 (w.heap.size + 1) [.string ⟨#[]⟩, .string ⟨#[]⟩, .slice none 0 0, .int .i64 0, .slice none 0 0] := by rw [hZ1]; exact BY.off (by omega)
   have HR : Hid (RowZ wr b o sc (ss.map cancelT) ∧ Turns (fun k => k = b) w wr) := ⟨by rw [← cancelTo_all, ← HN.out]; exact R, T⟩
   obtain ⟨Z, hZ⟩ : ∃ Z, Z = ((((Z1.setCell ⟨w.heap.size + 1, 0, none⟩ (.string ky)).setCell ⟨w.heap.size + 1, 1, none⟩ (.string nm)).setCell ⟨w.heap.size + 1, 2, none⟩ (.slice ta tn tc)).setCell ⟨w.heap.size + 1, 3, none⟩ (.int .i64 k2)).setCell ⟨w.heap.size + 1, 4, none⟩ (.slice (some ⟨b, o, none⟩) n sc) := ⟨_, rfl⟩
   have BY2 : BoxL Z (w.heap.size + 1) [.string ky, .string nm, .slice ta tn tc, .int .i64 k2, .slice (some ⟨b, o, none⟩) n sc] := by rw [hZ]; exact boxL_set5 BY1 _ _ _ _ _
   have hBZ : Below w.heap.size wr Z := by rw [hZ, hZ1]; exact below_setT ((Below.refl _ _).setCell (p := ⟨w.heap.size, 3, none⟩) (Nat.le_refl _) _) (Nat.le_succ _) _ _ _ _ _
   have HE : Hid (RowZ Z b o sc (ss.map cancelT) ∧ Turns (fun k => k = b) w Z) := by
    have hx : b ≠ w.heap.size + 1 := by omega
    have hy : b ≠ w.heap.size := by omega
    have t1 : Turns (fun k => w.heap.size ≤ k) wr Z := by
     rw [hZ, hZ1]
     exact ((((((Turns.refl (fun k => w.heap.size ≤ k) wr).setCell (p := ⟨w.heap.size, 3, none⟩) (Nat.le_refl _) _).setCell (p := ⟨w.heap.size + 1, 0, none⟩) (Nat.le_succ _) _).setCell (p := ⟨w.heap.size + 1, 1, none⟩) (Nat.le_succ _) _).setCell (p := ⟨w.heap.size + 1, 2, none⟩) (Nat.le_succ _) _).setCell (p := ⟨w.heap.size + 1, 3, none⟩) (Nat.le_succ _) _).setCell (p := ⟨w.heap.size + 1, 4, none⟩) (Nat.le_succ _) _
    refine ⟨HR.out.1.turns t1 (by omega), ?_⟩
    exact turns_late HR.out.2 t1
   have e3 := BX.2 3 (by simp)
   have y0 := BX1.1 0 _ rfl
   have y1 := BX1.1 1 _ rfl
   have y2 := BX1.1 2 _ rfl
   have y3 := BX1.1 3 _ rfl
   have y4 := BX1.1 4 _ rfl
   have v0 := BY1.1 0 _ rfl
   have v1 := BY1.1 1 _ rfl
   have v2 := BY1.1 2 _ rfl
   have v3 := BY1.1 3 _ rfl
   have v4 := BY1.1 4 _ rfl
   have d0 := BY1.2 0 (by simp)
   have d1 := BY1.2 1 (by simp)
   have d2 := BY1.2 2 (by simp)
   have d3 := BY1.2 3 (by simp)
   have d4 := BY1.2 4 (by simp)
   rw [hZ1] at y0 y1 y2 y3 y4 v0 v1 v2 v3 v4 d0 d1 d2 d3 d4
   have r0 := BY2.1 0 _ rfl
   have r1 := BY2.1 1 _ rfl
   have r2 := BY2.1 2 _ rfl
   have r3 := BY2.1 3 _ rfl
   have r4 := BY2.1 4 _ rfl
   clear HR R T BX BY BX1 BY1 BY2 hBZ
   go_wp2
   rw [← hZ1, ← hZ]
   refine bodyPost_ret (v := .agg #[.string ky, .string nm, .slice ta tn tc, .int .i64 k2, .slice (some ⟨b, o, none⟩) n sc]) (by simp [results, Try.results52, go_sem, r0, r1, r2, r3, r4]) rfl ⟨rfl, HE.out.1, HE.out.2⟩
end Go.Proofs.Ytdpljpjbomhccaa
namespace Go.Proofs.Ytdpljpjbomhccaa
open Go.RowKit Plain
set_option linter.unusedVariables false
theorem IsT.kept {P : Nat → Prop} {w w' : World} {a : Option Addr} {c : Nat} {ts : List TaskV} (h : IsT w a c ts) (t : Turns P w w') (hp : 0 < ts.length → ∀ x, a = Option.some x → ¬ P x.block) (hq : ∀ u ∈ ts, 0 < u.ns.length → ∀ x, u.a = Option.some x → ¬ P x.block) : IsT w' a c ts := by
 refine ⟨h.1, h.2.1, fun u hu => (h.2.2.1 u hu).kept t (hq u hu), fun j u hu => ?_⟩
 obtain ⟨b, o, ha, hl, c0, c1, c2, c3⟩ := h.2.2.2 j u hu
 have hb := hp (Nat.lt_of_le_of_lt (Nat.zero_le _) (List.getElem?_eq_some_iff.1 hu).1) _ ha
 exact ⟨b, o, ha, Nat.lt_of_lt_of_le hl t.size, t.cell (p := ⟨b, o + j * 4, none⟩) hb c0, t.cell (p := ⟨b, o + j * 4 + 1, none⟩) hb c1, t.cell (p := ⟨b, o + j * 4 + 2, none⟩) hb c2, t.cell (p := ⟨b, o + j * 4 + 3, none⟩) hb c3⟩
theorem IsT.off2 {w w' : World} {b B : Nat} {a : Option Addr} {c : Nat} {ts : List TaskV} (h : IsT w a c ts) (t : Turns (fun k => k = b ∨ B ≤ k) w w') (ho : OffT b a ts) (hB : w.heap.size ≤ B) : IsT w' a c ts := by
 refine h.kept t (fun h0 x hx => ?_) (fun u hu h0 x hx => ?_)
 ·
  have h1 := ho.1 x hx
  obtain ⟨b', o', rfl, hl⟩ := h.some h0
  cases hx
  rintro (e | e)
  ·
   exact h1 e
  ·
   have : w.heap.size ≤ b' := Nat.le_trans hB e
   omega
 ·
  have h1 := ho.2 u hu x hx
  have h2 := (h.2.2.1 u hu).lies h0 x hx
  rintro (e | e)
  ·
   exact h1 e
  ·
   have := Nat.le_trans hB e; omega
def mendP (ts : List TaskP) (ss : List StP) (pre : List (Nat × StP)) : List StP := ss.mapIdx fun i s => if ((pre.any fun p => decide (p.1 = i)) && readyI ts ss i) = true then readyT s else s
theorem mendP_length (ts : List TaskP) (ss : List StP) (pre : List (Nat × StP)) : (mendP ts ss pre).length = ss.length := by simp [mendP]
theorem mendP_nil (ts : List TaskP) (ss : List StP) : mendP ts ss [] = ss := by
 refine List.ext_getElem? fun i => ?_
 unfold mendP
 rw [List.getElem?_mapIdx]
 cases ss[i]? <;> rfl
theorem mendP_at {ts : List TaskP} {ss : List StP} {pre : List (Nat × StP)} {j : Nat} {s : StP} (h : ss[j]? = some s) : (mendP ts ss pre)[j]? = some (if ((pre.any fun p => decide (p.1 = j)) && readyI ts ss j) = true then readyT s else s) := by
 unfold mendP
 rw [List.getElem?_mapIdx, h]
 rfl
theorem mendP_ahead {ts : List TaskP} {ss : List StP} {pre : List (Nat × StP)} {j : Nat} (h : ∀ x ∈ pre, x.1 < j) : (mendP ts ss pre)[j]? = ss[j]? := by
 unfold mendP
 rw [List.getElem?_mapIdx]
 have : (pre.any fun p => decide (p.1 = j)) = false := by
  rw [List.any_eq_false]
  intro x hx
  have := h x hx
  simp; omega
 rw [this]
 cases ss[j]? <;> rfl
theorem mendP_done (ts : List TaskP) (ss : List StP) (pre : List (Nat × StP)) (y : Nat) : isAt (mendP ts ss pre) y = 3 ↔ isAt ss y = 3 := by
 unfold isAt
 cases h : ss[y]? with
 | none =>
  have : (mendP ts ss pre)[y]? = none := by
   rw [List.getElem?_eq_none_iff, mendP_length]
   exact List.getElem?_eq_none_iff.1 h
  rw [this]
 | some s =>
  rw [mendP_at h]
  simp only [Option.map_some, Option.getD_some]
  split
  ·
   rw [ready_i]; split <;> omega
  ·
   rfl
theorem mendP_snoc {ts : List TaskP} {ss : List StP} {pre : List (Nat × StP)} {x : Nat × StP} (hx : ss[x.1]? = some x.2) : mendP ts ss (pre ++ [x]) = if readyI ts ss x.1 = true then (mendP ts ss pre).set x.1 (readyT x.2) else mendP ts ss pre := by
 refine List.ext_getElem? fun i => ?_
 have hl := (List.getElem?_eq_some_iff.1 hx).1
 have e : (mendP ts ss (pre ++ [x]))[i]? = ss[i]?.map fun s => if (((pre ++ [x]).any fun p => decide (p.1 = i)) && readyI ts ss i) = true then readyT s else s := by unfold mendP; rw [List.getElem?_mapIdx]
 have e2 : (mendP ts ss pre)[i]? = ss[i]?.map fun s => if ((pre.any fun p => decide (p.1 = i)) && readyI ts ss i) = true then readyT s else s := by unfold mendP; rw [List.getElem?_mapIdx]
 rw [e, List.any_append]
 by_cases hr : readyI ts ss x.1 = true
 ·
  rw [if_pos hr]
  by_cases hi : x.1 = i
  ·
   subst hi
   rw [hx, List.getElem?_set_self (by rw [mendP_length]; exact hl)]
   simp [hr]
  ·
   rw [List.getElem?_set_ne hi, e2]
   have hd : decide (x.1 = i) = false := by simpa using hi
   simp only [List.any_cons, List.any_nil, hd, Bool.or_false]
 ·
  rw [if_neg hr, e2]
  by_cases hi : x.1 = i
  ·
   subst hi
   rw [hx]
   simp [hr]
  ·
   have hd : decide (x.1 = i) = false := by simpa using hi
   simp only [List.any_cons, List.any_nil, hd, Bool.or_false]
theorem mendP_all (ts : List TaskP) (ss : List StP) : mendP ts ss (candL [0] ss) = ss.mapIdx fun i s => if readyI ts ss i then readyT s else s := by
 refine List.ext_getElem? fun i => ?_
 rw [List.getElem?_mapIdx]
 cases h : ss[i]? with
 | none =>
  rw [Option.map_none, List.getElem?_eq_none_iff, mendP_length]
  exact List.getElem?_eq_none_iff.1 h
 | some s =>
  rw [mendP_at h, Option.map_some]
  by_cases h0 : s.i = 0
  ·
   have : ((candL [0] ss).any fun p => decide (p.1 = i)) = true := by
    rw [List.any_eq_true]
    exact ⟨(i, s), mem_candL h (by simp [h0]), by simp⟩
   rw [this]
   simp
  ·
   have hr : readyT s = s := by unfold readyT; rw [if_neg h0]
   rw [hr]
   simp
end Go.Proofs.Ytdpljpjbomhccaa
namespace Go.Proofs.Ytdpljpjbomhccaa
open Go.RowKit Go.Shelf Plain Anylast
set_option linter.unusedVariables false
attribute [local go_sem] Oper.semAt_some
def begV (z b o n c j zs : Nat) (s x : StP) : Nat → Value
 | 0 => .pointer (some ⟨z, 4, none⟩)
 | 1 => .slice (some ⟨b, o, none⟩) n c
 | 2 => .int .i64 j
 | 3 => vT s
 | 4 => vT x
 | 5 => .pointer (some ⟨b, o + j * 5, none⟩)
 | _ => undef
set_option maxRecDepth 100000 in
set_option maxHeartbeats 4000000 in
theorem mended_any (ky nm : ByteArray) (ta : Option Addr) (tn tc : Nat) (is : Int) (b o n sc : Nat) (tv : List TaskV) (ss : List StP) (w : World) (hR : RowZ w b o sc ss) (hn : n = ss.length) (hT : IsT w ta tc tv) (htn : tn = tv.length) (off : OffT b ta tv) (hnt : n = tn) (hin : ∀ (i : Nat) t, tv[i]? = some t → ∀ x ∈ t.ns, 0 ≤ x ∧ x < n) :
  Calls Try.prog 30 #[.agg #[.string ky, .string nm, .slice ta tn tc, .int .i64 is, .slice (some ⟨b, o, none⟩) n sc]] w fun e w' => e = .returned (.agg #[.string ky, .string nm, .slice ta tn tc, .int .i64 (mendS (plainT tv) ss is).2, .slice (some ⟨b, o, none⟩) n sc]) ∧ RowZ w' b o sc (mendS (plainT tv) ss is).1 ∧ Turns (fun k => k = b) w w' := by
 have hbl := hR.lt
 have hnm : n ≤ 9223372036854775807 := by rw [hn]; exact hR.isZ.size
 obtain ⟨W0, hW0⟩ : ∃ W0, W0 = (w.alloc (.cells #[.string ky, .string nm, .slice ta tn tc, .int .i64 is, .slice (some ⟨b, o, none⟩) n sc] 27)).alloc (.cells #[.string ⟨#[]⟩, .string ⟨#[]⟩, .slice none 0 0, .int .i64 0, .slice none 0 0] 27) := ⟨_, rfl⟩
 have hB0 : Below w.heap.size w W0 := by rw [hW0]; exact bel2 w _ _
 have hs0 : W0.heap.size = w.heap.size + 1 + 1 := by rw [hW0]; simp
 have BX : BoxL W0 w.heap.size [.string ky, .string nm, .slice ta tn tc, .int .i64 is, .slice (some ⟨b, o, none⟩) n sc] := by rw [hW0]; exact (boxL_new w [.string ky, .string nm, .slice ta tn tc, .int .i64 is, .slice (some ⟨b, o, none⟩) n sc] _ rfl).alloc _
 have BY : BoxL W0 (w.heap.size + 1) [.string ⟨#[]⟩, .string ⟨#[]⟩, .slice none 0 0, .int .i64 0, .slice none 0 0] := by rw [hW0]; exact boxL_new _ [.string ⟨#[]⟩, .string ⟨#[]⟩, .slice none 0 0, .int .i64 0, .slice none 0 0] _ (by simp)
 have R0 : RowZ W0 b o sc ss := hR.below hB0
 have cC : Calls Try.prog 70 #[.slice (some ⟨b, o, none⟩) n sc, .slice (some ⟨w.heap.size + 1 + 1, 0, none⟩) 1 1] (W0.alloc (.cells #[.int .i64 4] 3)) fun e w' => e = .returned (.int .i64 (cntK [4] ss)) ∧ Below W0.heap.size W0 w' := by
  have := count_any (some ⟨b, o, none⟩) n sc _ 1 1 [4] ss (W0.alloc (.cells #[.int .i64 4] 3)) (R0.isZ.alloc _) hn (isI_one W0 4) rfl
  rw [hs0] at this
  exact this.mono (by rintro e w' ⟨rfl, h⟩; exact ⟨rfl, Below.tr ((Below.refl _ _).alloc (Nat.le_refl _) _) h⟩)
 have cE := fun W (h : RowZ W b o sc ss) => ended_any ky nm ta tn tc is 2 b o n sc ss W h hn
 have hc4 := cnt_none 4 ss
 have hnc : n ≤ sc := by rw [hn]; exact hR.isZ.1
 have hcm : sc ≤ 9223372036854775807 := hR.isZ.2.1
 have HN : Hid (n = ss.length) := hn
 have HNT : Hid (n = tn) := hnt
 have HTN : Hid (tn = tv.length) := htn
 have f1 := BX.1 4 _ rfl
 have TB : Turns (fun k => k = b) w W0 := Turns.of_below hB0
 by_cases h4 : hasK ss 4 = true
 ·
  have hm : mendS (plainT tv) ss is = (ss.map cancelT, 2) := if_pos h4
  rw [hm]
  have hcp : (0 : Int) < (cntK [4] ss : Nat) := by
   have : cntK [4] ss ≠ 0 := fun h => by rw [hc4.1 h] at h4; cases h4
   omega
  generalize cntK [4] ss = q at *
  clear hR hn hT htn hnt hin h4 hc4 hB0
  refine (callsIn_wide (n := 3)).1 ?_
  refine callsIn_of_wp_marks Try.func30 rfl trivial ?_ rfl
  simp only [Try.ntmps30, List.size_toArray, List.length_cons, List.length_nil, Nat.reduceAdd, Nat.reduceSub, Array.replicate_succ, Array.replicate_zero, List.push_toArray, List.append_toArray, List.nil_append, List.cons_append]
  rw [hW0] at f1
  gi_wp2_with (first
   | (refine ⟨trivial, ?_⟩; gi_at_call 70; rw [← hW0]; refine (callsIn_wide.2 cC).mono ?_; rintro e w1 ⟨rfl, hb⟩; clear f1; have BX1 := BX.below hb; have BY1 := BY.below hb; have R1 := R0.below hb; have T1 : Turns (fun k => k = b) W0 w1 := Turns.of_below hb; have g0 := BX1.1 0 _ rfl; have g1 := BX1.1 1 _ rfl; have g2 := BX1.1 2 _ rfl; have g3 := BX1.1 3 _ rfl; have g4 := BX1.1 4 _ rfl)
   | (refine ⟨trivial, ?_⟩; gi_at_call 52; refine (callsIn_wide.2 (cE _ R1)).mono ?_; rintro e w2 ⟨rfl, R2, T2⟩; have BY2 := boxL_turns BY1 T2 (show ¬ w.heap.size + 1 = b by omega); have T3 := T1.trans T2; have d0 := BY2.2 0 (by simp); have d1 := BY2.2 1 (by simp); have d2 := BY2.2 2 (by simp); have d3 := BY2.2 3 (by simp); have d4 := BY2.2 4 (by simp); have y0 := BY2.1 0 _ rfl; have y1 := BY2.1 1 _ rfl; have y2 := BY2.1 2 _ rfl; have y3 := BY2.1 3 _ rfl; have y4 := BY2.1 4 _ rfl))
  obtain ⟨Z, hZ⟩ : ∃ Z, Z = ((((w2.setCell ⟨w.heap.size + 1, 0, none⟩ (.string ky)).setCell ⟨w.heap.size + 1, 1, none⟩ (.string nm)).setCell ⟨w.heap.size + 1, 2, none⟩ (.slice ta tn tc)).setCell ⟨w.heap.size + 1, 3, none⟩ (.int .i64 2)).setCell ⟨w.heap.size + 1, 4, none⟩ (.slice (some ⟨b, o, none⟩) n sc) := ⟨_, rfl⟩
  have BZ : BoxL Z (w.heap.size + 1) [.string ky, .string nm, .slice ta tn tc, .int .i64 2, .slice (some ⟨b, o, none⟩) n sc] := by rw [hZ]; exact boxL_set5 BY2 _ _ _ _ _
  have TZ : Turns (fun k => k = w.heap.size + 1) w2 Z := by rw [hZ]; exact turns_set5 _ _ _ _ _ _ _
  rw [← hZ]
  have r0 := BZ.1 0 _ rfl
  have r1 := BZ.1 1 _ rfl
  have r2 := BZ.1 2 _ rfl
  have r3 := BZ.1 3 _ rfl
  have r4 := BZ.1 4 _ rfl
  refine ⟨.agg #[.string ky, .string nm, .slice ta tn tc, .int .i64 2, .slice (some ⟨b, o, none⟩) n sc], by simp [results, Try.results30, go_sem, r0, r1, r2, r3, r4], rfl, R2.turns TZ (by omega), ?_⟩
  exact turns_late (TB.trans T3) (TZ.mono fun k hk => by subst hk; omega)
 ·
  have h4' : hasK ss 4 = false := by simpa using h4
  rw [hc4.2 h4'] at cC
  obtain ⟨ts, hts⟩ : ∃ ts, ts = plainT tv := ⟨_, rfl⟩
  have hm : mendS ts ss is = (mendP ts ss (candL [0] ss), if allS (mendP ts ss (candL [0] ss)) = true then 1 else is) := by
   unfold mendS
   rw [if_neg h4, mendP_all]
   rfl
  obtain ⟨FS, hFS⟩ : ∃ FS, FS = mendP ts ss (candL [0] ss) := ⟨_, rfl⟩
  obtain ⟨IS, hIS⟩ : ∃ IS : Int, IS = if allS FS = true then 1 else is := ⟨_, rfl⟩
  rw [← hFS, ← hIS] at hm
  rw [← hts, hm]
  have HFS : Hid (FS = mendP ts ss (candL [0] ss)) := hFS
  have HIS : Hid (IS = if allS FS = true then 1 else is) := hIS
  clear hFS hIS
  have hTh : Hid (∀ W, IsT W ta tc tv → W.heap.size ≤ W.heap.size) := fun _ _ => Nat.le_refl _
  have HT : Hid (IsT w ta tc tv) := hT
  have HIN : Hid (∀ (i : Nat) t, tv[i]? = some t → ∀ x ∈ t.ns, 0 ≤ x ∧ x < n) := hin
  have HTS : Hid (ts = plainT tv) := hts
  clear hR hn hT htn hnt hin h4 h4' hc4 hB0 hm hts hTh cE
  refine (callsIn_wide (n := 3)).1 ?_
  refine callsIn_of_wp_marks Try.func30 rfl trivial ?_ rfl
  simp only [Try.ntmps30, List.size_toArray, List.length_cons, List.length_nil, Nat.reduceAdd, Nat.reduceSub, Array.replicate_succ, Array.replicate_zero, List.push_toArray, List.append_toArray, List.nil_append, List.cons_append]
  rw [hW0] at f1
  gi_wp2_with (first
   | (refine ⟨trivial, ?_⟩; gi_at_call 70; rw [← hW0]; refine (callsIn_wide.2 cC).mono ?_; rintro e w1 ⟨rfl, hb⟩; clear f1; have BX1 := BX.below hb; have BY1 := BY.below hb; have R1 := R0.below hb; have T1 : Turns (fun k => k = b) W0 w1 := Turns.of_below hb; have f4 := BX1.1 4 _ rfl; obtain ⟨W1, hW1⟩ : ∃ W1, W1 = ((w1.alloc (.cells #[.int .i64 0] 3)).alloc (.cells #[.slice (some ⟨b, o, none⟩) n sc] 25)).alloc (.cells #[.slice (some ⟨w1.heap.size, 0, none⟩) 1 1] 48) := ⟨_, rfl⟩; have HSZ : Hid (W1.heap.size = w1.heap.size + 3) := (by show _ = _; rw [hW1]; simp); have HB1 : Hid (Below w1.heap.size w1 W1) := (by show Below _ _ _; rw [hW1]; exact bel3 w1 _ _ _); have HG : Hid (W1.cell? ⟨w1.heap.size + 1, 0, none⟩ = some (.slice (some ⟨b, o, none⟩) n sc) ∧ W1.cell? ⟨w1.heap.size + 1 + 1, 0, none⟩ = some (.slice (some ⟨w1.heap.size, 0, none⟩) 1 1) ∧ IsI W1 (some ⟨w1.heap.size, 0, none⟩) 1 [0]) := (by rw [hW1]; exact ⟨cell_alloc (World.cell?_alloc_at _ _ _ _ (by simp)) _, World.cell?_alloc_at _ _ _ _ (by simp), (isI_one w1 0).below (bel2 _ _ _)⟩))
   | (refine ⟨trivial, ?_⟩; gi_at_call 50; refine (thoseR_any _ _ _ _ _ _ _ _).mono ?_; rintro e w3 ⟨rfl, rfl⟩))
  rw [← hW1]
  clear hW1
  have hsz1 : W1.heap.size = w1.heap.size + 3 := HSZ.out
  have hzl : w.heap.size + 1 + 1 ≤ w1.heap.size := by have := T1.size; rw [hs0] at this; exact this
  have tW : Turns (fun k => k = b) w W1 := (TB.trans T1).tr (HB1.out)
  have hTW : IsT W1 ta tc tv := HT.out.off tW off
  have BX2 := BX1.below HB1.out
  have BY2 := BY1.below HB1.out
  have R2 := R1.below HB1.out
  have G1 : W1.cell? ⟨w1.heap.size + 1, 0, none⟩ = some (.slice (some ⟨b, o, none⟩) n sc) := HG.out.1
  have G2 : W1.cell? ⟨w1.heap.size + 1 + 1, 0, none⟩ = some (.slice (some ⟨w1.heap.size, 0, none⟩) 1 1) := HG.out.2.1
  have G3 : IsI W1 (some ⟨w1.heap.size, 0, none⟩) 1 [0] := HG.out.2.2
  have hH := those1_hands (3 - 1) (by omega) (w1.heap.size + 1) (w1.heap.size + 1 + 1) (some ⟨b, o, none⟩) n sc (some ⟨w1.heap.size, 0, none⟩) 1 1 [0] ss HN.out rfl W1
  have hb1 : b < W1.heap.size := by omega
  refine range_known rfl (enters_of Try.func84 (by kernel_rfl) rfl) hH (fun _ => rfl)
   (fun pre V => Turns (fun k => k = b ∨ W1.heap.size ≤ k) W1 V ∧ RowZ V b o sc (mendP ts ss pre))
   (fun _ _ _ => False)
   (ownFrom_turns fun s V V' h t => ⟨h.1.trans (t.mono fun k hk => .inr hk), h.2.turns t (by omega)⟩)
   (fun _ _ _ _ _ h _ _ => h)
   (fun pre V h => ⟨h.1.cell (p := ⟨w1.heap.size + 1, 0, none⟩) (show ¬ (w1.heap.size + 1 = b ∨ W1.heap.size ≤ w1.heap.size + 1) by omega) G1, h.1.cell (p := ⟨w1.heap.size + 1 + 1, 0, none⟩) (show ¬ (w1.heap.size + 1 + 1 = b ∨ W1.heap.size ≤ w1.heap.size + 1 + 1) by omega) G2, G3.turns h.1 (fun x hx => by cases hx; show ¬ (w1.heap.size = b ∨ W1.heap.size ≤ w1.heap.size); omega), mendP ts ss pre, h.2.isZ, by rw [mendP_length]; exact HN.out.symm, fun j hj => mendP_ahead hj⟩)
   ⟨Turns.refl _ _, by rw [mendP_nil]; exact R2⟩
   (fun x a' V => ∃ bx, W1.heap.size ≤ bx ∧ BoxL V bx [.int .i64 x.2.i, .int .i64 x.2.t, .int .i64 x.2.d, .int .i64 x.2.k, .string x.2.r] ∧ a' = { tmps := #[.agg #[.string ky, .string nm, .slice ta tn tc, .int .i64 is, .slice (some ⟨b, o, none⟩) n sc], .pointer (some ⟨w.heap.size, 0, none⟩), .pointer (some ⟨w.heap.size + 1, 0, none⟩), .int .i64 x.1, .pointer (some ⟨bx, 0, none⟩), .pointer (some ⟨w.heap.size, 4, none⟩), .slice (some ⟨b, o, none⟩) n sc, .slice (some ⟨w.heap.size + 1 + 1, 0, none⟩) 1 1, .int .i64 0, .bool false, undef, undef, .pointer (some ⟨w.heap.size, 4, none⟩), .slice (some ⟨b, o, none⟩) n sc, .slice (some ⟨w1.heap.size, 0, none⟩) 1 1, .func (.func 84) #[] #[.pointer (some ⟨w1.heap.size + 1, 0, none⟩), .pointer (some ⟨w1.heap.size + 1 + 1, 0, none⟩)], .int .i64 x.1, .agg #[.int .i64 x.2.i, .int .i64 x.2.t, .int .i64 x.2.d, .int .i64 x.2.k, .string x.2.r], undef, undef, undef, undef, undef, undef, undef, undef, undef, undef, undef, undef, undef, undef], defers := [] })
   (fun x a' s V V' row hs hg hr => by
    obtain ⟨bx, h1, h2, h3⟩ := hs
    exact ⟨bx, h1, boxL_kept h2 hg (fun r e => (hr r e).2), h3⟩) ?assign ?body ?done ?stop
  case assign =>
   rintro l pre x V K hi hpre hK
   dsimp only [encZ]
   obtain ⟨x1, i, t, d, k, r⟩ := x
   dsimp only at *
   gi_wp2
   refine hK _ _ (keeps_below ((Below.refl _ _).alloc (Nat.le_refl _) _)) ?_ ⟨V.heap.size, hi.1.size, boxL_new V _ _ rfl, rfl⟩
   exact ⟨hi.1.alloc _, hi.2.below ((Below.refl _ _).alloc (Nat.le_refl _) _)⟩
  case body =>
   rintro l pre x a' V ⟨t, R⟩ ⟨bx, h1, bX, rfl⟩ hpre
   obtain ⟨hx1, hx2, -⟩ := cand_next hpre
   have hxl := (List.getElem?_eq_some_iff.1 hx1).1
   obtain ⟨tk, htk⟩ : ∃ tk, tv[x.1]? = some tk := ⟨_, List.getElem?_eq_getElem (by have := HN.out; have := HNT.out; have := HTN.out; omega)⟩
   have hTV : IsT V ta tc tv := hTW.off2 t off (Nat.le_refl _)
   have e1 : readyI (plainT tv) (mendP ts ss pre) x.1 = readyI ts ss x.1 := by rw [HTS.out]; exact ready_same (mendP_done _ ss pre) x.1
   have cB := canBegin_any ky nm ta tn tc is (some ⟨b, o, none⟩) n sc (mendP ts ss pre) tv x.1 tk V R.isZ (by rw [mendP_length]; exact HN.out) hTV HTN.out htk (HIN.out x.1 tk htk)
   rw [e1] at cB
   have BXV : BoxL V w.heap.size [.string ky, .string nm, .slice ta tn tc, .int .i64 is, .slice (some ⟨b, o, none⟩) n sc] := boxL_turns BX2 t (show ¬ (w.heap.size = b ∨ W1.heap.size ≤ w.heap.size) by omega)
   obtain ⟨y, hy⟩ : ∃ y, (mendP ts ss pre)[x.1]? = some y := ⟨_, List.getElem?_eq_getElem (by rw [mendP_length]; exact hxl)⟩
   have hsn : Hid (mendP ts ss (pre ++ [x]) = if readyI ts ss x.1 = true then (mendP ts ss pre).set x.1 (readyT x.2) else mendP ts ss pre) := mendP_snoc hx1
   have hrx : x.2.r.size ≤ maxLen := R0.isZ.text hx1
   have hjl : x.1 < (mendP ts ss pre).length := by rw [mendP_length]; exact hxl
   have hxn : x.1 < n := by rw [HN.out]; exact hxl
   have hxn' : (x.1 : Int) < n := by omega
   have g0 := BXV.1 0 _ rfl
   have g1 := BXV.1 1 _ rfl
   have g2 := BXV.1 2 _ rfl
   have g3 := BXV.1 3 _ rfl
   have g4 := BXV.1 4 _ rfl
   clear hx1 hx2 hxl htk e1 hTV hpre
   obtain ⟨F, hF⟩ : ∃ F, F = readyI ts ss x.1 := ⟨_, rfl⟩
   rw [← hF] at cB
   have hsn' : Hid (F = readyI ts ss x.1) := hF
   clear hF
   obtain ⟨x1, si, st, sd, sk, sr⟩ := x
   dsimp only at *
   have hrdx := ready_text (s := ⟨si, st, sd, sk, sr⟩) hrx
   cases F
   ·
    gi_wp2_with (refine ⟨trivial, ?_⟩; gi_at_call 71; refine CallsIn.inRound l ((callsIn_wide.2 cB).mono ?_); rintro e w2 ⟨rfl, rfl⟩)
    refine ⟨keeps_below ((Below.refl _ _).alloc (Nat.le_refl _) _), trivial, t.alloc _, ?_⟩
    rw [hsn.out, ← hsn'.out]
    exact R.below ((Below.refl _ _).alloc (Nat.le_refl _) _)
   ·
    obtain ⟨Y, hY⟩ : ∃ Y, Y = V.alloc (.cells #[.string ky, .string nm, .slice ta tn tc, .int .i64 is, .slice (some ⟨b, o, none⟩) n sc] 27) := ⟨_, rfl⟩
    rw [← hY] at cB
    have hBY : Below V.heap.size V Y := by rw [hY]; exact (Below.refl _ _).alloc (Nat.le_refl _) _
    have RY := R.below hBY
    have f4 := (BXV.below hBY).1 4 _ rfl
    have f5 := (bX.below hBY).1 0 _ rfl
    have f6 := (bX.below hBY).1 1 _ rfl
    have f7 := (bX.below hBY).1 2 _ rfl
    have f8 := (bX.below hBY).1 3 _ rfl
    have f9 := (bX.below hBY).1 4 _ rfl
    have hxb : w.heap.size ≠ b := by omega
    have hzb : bx ≠ b := by omega
    gi_wp2_with (refine ⟨trivial, ?_⟩; gi_at_call 71; refine CallsIn.inRound l ((callsIn_wide.2 cB).mono ?_); rintro e w2 ⟨rfl, rfl⟩)
    rw [← hY]
    refine round_turns (by kernel_rfl) (by kernel_rfl) [6] (begV w.heap.size b o n sc x1 bx ⟨si, st, sd, sk, sr⟩ (readyT ⟨si, st, sd, sk, sr⟩)) (StoreS w2 b o sc (mendP ts ss pre) x1 (readyT ⟨si, st, sd, sk, sr⟩)) (by kernel_rfl) (by kernel_rfl) (Below.refl _ _).drew ?step 7 rfl ?after
    case step =>
     clear hY
     intro i o ho kk a2 wX hkk hmay hS hdf hsz hdep hsame
     match i, ho with
     | 0, ho =>
      cases ho
      have h1 := hsame 1 rfl
      exact val_op rfl (wanted_free rfl) (by clear hdep hsame hsz hdf; (try simp only [begV]); go_simp) rfl hS
     | 1, ho =>
      cases ho
      have h21 := hdep 0 _ 21 rfl rfl rfl
      simp only [begV] at h21
      match kk, hkk, hmay, hS with
      | 0, _, hq, hS => first | (cases hq; done) | ((have g4 := cell_below hS f4; have g5 := cell_below hS f5; have g6 := cell_below hS f6; have g7 := cell_below hS f7; have g8 := cell_below hS f8; have g9 := cell_below hS f9; obtain ⟨p0, p1, p2, p3, p4⟩ := (RY.below hS).at hy; obtain ⟨r0, r1, r2, r3, r4⟩ := (RY.below hS).frees hjl); exact val_op rfl (wanted_free rfl) (by clear hdep hsame hsz hdf; (try simp only [begV]); go_simp) rfl hS)
      | 1, _, hq, hS => first | (cases hq; done) | ((have g4 := hS.1.cell (p := ⟨w.heap.size, 4, none⟩) hxb f4; have g5 := hS.1.cell (p := ⟨bx, 0, none⟩) hzb f5; have g6 := hS.1.cell (p := ⟨bx, 1, none⟩) hzb f6; have g7 := hS.1.cell (p := ⟨bx, 2, none⟩) hzb f7; have g8 := hS.1.cell (p := ⟨bx, 3, none⟩) hzb f8; have g9 := hS.1.cell (p := ⟨bx, 4, none⟩) hzb f9); exact val_op rfl (wanted_free rfl) (by clear hdep hsame hsz hdf; (try simp only [begV]); go_simp) rfl hS)
      | kk + 2, hkk, _, _ => simp at hkk
     | 2, ho =>
      cases ho
      have h3 := hsame 3 rfl
      exact val_op rfl (wanted_free rfl) (by clear hdep hsame hsz hdf; (try simp only [begV]); go_simp) rfl hS
     | 3, ho =>
      cases ho
      have h4 := hsame 4 rfl
      match kk, hkk, hmay, hS with
      | 0, _, hq, hS => first | (cases hq; done) | ((have g4 := cell_below hS f4; have g5 := cell_below hS f5; have g6 := cell_below hS f6; have g7 := cell_below hS f7; have g8 := cell_below hS f8; have g9 := cell_below hS f9; obtain ⟨p0, p1, p2, p3, p4⟩ := (RY.below hS).at hy; obtain ⟨r0, r1, r2, r3, r4⟩ := (RY.below hS).frees hjl); exact val_op rfl (wanted_free rfl) (by clear hdep hsame hsz hdf; (try simp only [begV]); go_simp) rfl hS)
      | 1, _, hq, hS => first | (cases hq; done) | ((have g4 := hS.1.cell (p := ⟨w.heap.size, 4, none⟩) hxb f4; have g5 := hS.1.cell (p := ⟨bx, 0, none⟩) hzb f5; have g6 := hS.1.cell (p := ⟨bx, 1, none⟩) hzb f6; have g7 := hS.1.cell (p := ⟨bx, 2, none⟩) hzb f7; have g8 := hS.1.cell (p := ⟨bx, 3, none⟩) hzb f8; have g9 := hS.1.cell (p := ⟨bx, 4, none⟩) hzb f9); exact val_op rfl (wanted_free rfl) (by clear hdep hsame hsz hdf; (try simp only [begV]); go_simp) rfl hS)
      | kk + 2, hkk, _, _ => simp at hkk
     | 4, ho =>
      cases ho
      have h24 := hdep 3 _ 24 rfl rfl rfl
      simp only [begV] at h24
      match kk, hkk, hmay, hS with
      | 0, _, hq, hS => first | (cases hq; done) | ((have g4 := cell_below hS f4; have g5 := cell_below hS f5; have g6 := cell_below hS f6; have g7 := cell_below hS f7; have g8 := cell_below hS f8; have g9 := cell_below hS f9; obtain ⟨p0, p1, p2, p3, p4⟩ := (RY.below hS).at hy; obtain ⟨r0, r1, r2, r3, r4⟩ := (RY.below hS).frees hjl); exact val_call rfl (wanted_free rfl) (by clear hdep hsame hsz hdf; (try simp only [begV]); go_simp) ((readyT_any si st sd sk sr wX).mono fun e w2 hh => ⟨hh.1, Below.tr hS hh.2⟩))
      | 1, _, hq, hS => first | (cases hq; done) | ((have g4 := hS.1.cell (p := ⟨w.heap.size, 4, none⟩) hxb f4; have g5 := hS.1.cell (p := ⟨bx, 0, none⟩) hzb f5; have g6 := hS.1.cell (p := ⟨bx, 1, none⟩) hzb f6; have g7 := hS.1.cell (p := ⟨bx, 2, none⟩) hzb f7; have g8 := hS.1.cell (p := ⟨bx, 3, none⟩) hzb f8; have g9 := hS.1.cell (p := ⟨bx, 4, none⟩) hzb f9); exact val_call rfl (wanted_free rfl) (by clear hdep hsame hsz hdf; (try simp only [begV]); go_simp) ((readyT_any si st sd sk sr wX).mono fun e w2 hh => ⟨hh.1, Below.tr hS hh.2⟩))
      | kk + 2, hkk, _, _ => simp at hkk
     | 5, ho =>
      cases ho
      have h22 := hdep 1 _ 22 rfl rfl rfl
      have h23 := hdep 2 _ 23 rfl rfl rfl
      simp only [begV] at h22 h23
      exact val_op rfl (wanted_free rfl) (by clear hdep hsame hsz hdf; (try simp only [begV]); go_simp) rfl hS
     | 6, ho =>
      cases ho
      have h26 := hdep 5 _ 26 rfl rfl rfl
      have h25 := hdep 4 _ 25 rfl rfl rfl
      simp only [begV] at h26 h25
      match kk, hkk, hmay, hS with
      | 0, _, _, hS =>
       (have g4 := cell_below hS f4; have g5 := cell_below hS f5; have g6 := cell_below hS f6; have g7 := cell_below hS f7; have g8 := cell_below hS f8; have g9 := cell_below hS f9; obtain ⟨p0, p1, p2, p3, p4⟩ := (RY.below hS).at hy; obtain ⟨r0, r1, r2, r3, r4⟩ := (RY.below hS).frees hjl)
       exact val_skip (w' := put5 wX b (o + x1 * 5) (readyT ⟨si, st, sd, sk, sr⟩)) rfl (wanted_free rfl) rfl (by clear hdep hsame hsz hdf; (try simp only [begV]); go_simp) (storeS_put RY hjl hrdx hS)
      | 1, _, hq, _ => cases hq
      | kk + 2, hkk, _, _ => simp at hkk
     | kk + 7, ho => simp at ho
    case after =>
     intro V2 hV
     obtain ⟨tV, rV⟩ := hV
     simp only [filledN, begV]
     gi_wp2
     refine ⟨?_, trivial, ?_, ?_⟩
     ·
      have : Turns (fun k => k = b) V V2 := (Turns.of_below hBY).trans tV
      exact ⟨this.size, fun k o hk1 hk2 _ => by rw [this.block k (Array.getElem?_eq_some_iff.1 hk2).1 (by omega)]; exact hk2⟩
     ·
      exact t.trans (((Turns.of_below hBY).trans tV).mono fun k hk => .inl hk)
     ·
      rw [hsn.out, ← hsn'.out]
      exact rV
  case done =>
   rintro D V hD ⟨t, R⟩ hK
   have hDl := (Array.getElem?_eq_some_iff.1 hK).1
   have hFn : n = FS.length := by rw [HFS.out, mendP_length]; exact HN.out
   rw [← HFS.out] at R
   have cA := areDone_any (some ⟨b, o, none⟩) n sc FS V R.isZ hFn
   obtain ⟨A, hA⟩ : ∃ A, A = allS FS := ⟨_, rfl⟩
   rw [← hA] at cA
   have HA : Hid (A = allS FS) := hA
   clear hA hFn
   have BXV : BoxL V w.heap.size [.string ky, .string nm, .slice ta tn tc, .int .i64 is, .slice (some ⟨b, o, none⟩) n sc] := boxL_turns BX2 t (show ¬ (w.heap.size = b ∨ W1.heap.size ≤ w.heap.size) by omega)
   have BYV : BoxL V (w.heap.size + 1) [.string ⟨#[]⟩, .string ⟨#[]⟩, .slice none 0 0, .int .i64 0, .slice none 0 0] := boxL_turns BY2 t (show ¬ (w.heap.size + 1 = b ∨ W1.heap.size ≤ w.heap.size + 1) by omega)
   have f4 := BXV.1 4 _ rfl
   have tV : Turns (fun k => k = b) w V := by
    have h1 : Turns (fun k => k = b ∨ w.heap.size ≤ k) w W1 := tW.mono fun k hk => .inl hk
    have h2 : Turns (fun k => k = b ∨ w.heap.size ≤ k) W1 V := t.mono fun k hk => hk.imp id fun h => by omega
    exact (h1.trans h2).mono' fun k hk hh => hh.resolve_right (by omega)
   have hDw : w.heap.size + 1 < D := by omega
   have hDb : D ≠ b := by omega
   cases A
   ·
    gi_wp2_with (refine ⟨trivial, ?_⟩; gi_at_call 73; refine (callsIn_wide.2 cA).mono ?_; rintro e w4 ⟨rfl, hb⟩; have BX4 := BXV.below hb; have BY4 := BYV.below hb; have R4 := R.below hb; have K4 := heap_turns hK (Turns.of_below (P := fun _ => False) hb) id; have t4 := tV.tr hb; have x0 := BX4.1 0 _ rfl; have x1 := BX4.1 1 _ rfl; have x2 := BX4.1 2 _ rfl; have x3 := BX4.1 3 _ rfl; have x4 := BX4.1 4 _ rfl; have d0 := BY4.2 0 (by simp); have d1 := BY4.2 1 (by simp); have d2 := BY4.2 2 (by simp); have d3 := BY4.2 3 (by simp); have d4 := BY4.2 4 (by simp); have y0 := BY4.1 0 _ rfl; have y1 := BY4.1 1 _ rfl; have y2 := BY4.1 2 _ rfl; have y3 := BY4.1 3 _ rfl; have y4 := BY4.1 4 _ rfl)
    obtain ⟨Z, hZ⟩ : ∃ Z, Z = ((((w4.setCell ⟨w.heap.size + 1, 0, none⟩ (.string ky)).setCell ⟨w.heap.size + 1, 1, none⟩ (.string nm)).setCell ⟨w.heap.size + 1, 2, none⟩ (.slice ta tn tc)).setCell ⟨w.heap.size + 1, 3, none⟩ (.int .i64 is)).setCell ⟨w.heap.size + 1, 4, none⟩ (.slice (some ⟨b, o, none⟩) n sc) := ⟨_, rfl⟩
    have BZ : BoxL Z (w.heap.size + 1) [.string ky, .string nm, .slice ta tn tc, .int .i64 is, .slice (some ⟨b, o, none⟩) n sc] := by rw [hZ]; exact boxL_set5 BY4 _ _ _ _ _
    have TZ : Turns (fun k => k = w.heap.size + 1) w4 Z := by rw [hZ]; exact turns_set5 _ _ _ _ _ _ _
    rw [← hZ]
    have KZ := heap_turns K4 TZ (by omega)
    have TP := turns_put Z D (.deferred none)
    have BP := boxL_turns BZ TP (by omega)
    have r0 := BP.1 0 _ rfl
    have r1 := BP.1 1 _ rfl
    have r2 := BP.1 2 _ rfl
    have r3 := BP.1 3 _ rfl
    have r4 := BP.1 4 _ rfl
    refine ⟨by simp, .inl ⟨_, _, rfl, run_takeDeferred KZ, ?_⟩⟩
    refine ⟨.agg #[.string ky, .string nm, .slice ta tn tc, .int .i64 is, .slice (some ⟨b, o, none⟩) n sc], by simp [results, Try.results30, go_sem, r0, r1, r2, r3, r4], ?_, ?_, ?_⟩
    ·
     have e : is = IS := by rw [HIS.out, ← HA.out]; rfl
     rw [e]
    ·
     exact (R4.turns TZ (by omega)).turns TP (by omega)
    ·
     exact turns_late (turns_late t4 (TZ.mono fun k hk => by subst hk; omega)) (TP.mono fun k hk => by subst hk; omega)
   ·
    have e3 : V.frozen? ⟨w.heap.size, 3, none⟩ = false := BXV.2 3 (by simp)
    gi_wp2_with (refine ⟨trivial, ?_⟩; gi_at_call 73; refine (callsIn_wide.2 cA).mono ?_; rintro e w5 ⟨rfl, hb⟩; have BX5 := BXV.below hb; have BY5 := BYV.below hb; have R5 := R.below hb; have K5 := heap_turns hK (Turns.of_below (P := fun _ => False) hb) id; have t5 := tV.tr hb; have x3 := BX5.1 3 _ rfl; have g3 := BX5.2 3 (by simp); obtain ⟨w4, hw4⟩ : ∃ w4, w4 = w5.setCell ⟨w.heap.size, 3, none⟩ (.int .i64 1) := ⟨_, rfl⟩; have tq : Turns (fun k => k = w.heap.size) w5 w4 := (by rw [hw4]; exact (Turns.refl (fun k => k = w.heap.size) w5).setCell (p := ⟨w.heap.size, 3, none⟩) rfl _); have BX4 : BoxL w4 w.heap.size [.string ky, .string nm, .slice ta tn tc, .int .i64 1, .slice (some ⟨b, o, none⟩) n sc] := (by rw [hw4]; exact BX5.set 3 _); have BY4 := boxL_turns BY5 tq (by omega); have R4 := R5.turns tq (by omega); have K4 := heap_turns K5 tq (by omega); have t4 := turns_late t5 (tq.mono fun k hk => by subst hk; omega); have x0' := BX4.1 0 _ rfl; have x1' := BX4.1 1 _ rfl; have x2' := BX4.1 2 _ rfl; have x3' := BX4.1 3 _ rfl; have x4' := BX4.1 4 _ rfl; have d0 := BY4.2 0 (by simp); have d1 := BY4.2 1 (by simp); have d2 := BY4.2 2 (by simp); have d3 := BY4.2 3 (by simp); have d4 := BY4.2 4 (by simp); have y0 := BY4.1 0 _ rfl; have y1 := BY4.1 1 _ rfl; have y2 := BY4.1 2 _ rfl; have y3 := BY4.1 3 _ rfl; have y4 := BY4.1 4 _ rfl; rw [hw4] at x0' x1' x2' x3' x4' d0 d1 d2 d3 d4 y0 y1 y2 y3 y4)
    rw [← hw4]
    obtain ⟨Z, hZ⟩ : ∃ Z, Z = ((((w4.setCell ⟨w.heap.size + 1, 0, none⟩ (.string ky)).setCell ⟨w.heap.size + 1, 1, none⟩ (.string nm)).setCell ⟨w.heap.size + 1, 2, none⟩ (.slice ta tn tc)).setCell ⟨w.heap.size + 1, 3, none⟩ (.int .i64 1)).setCell ⟨w.heap.size + 1, 4, none⟩ (.slice (some ⟨b, o, none⟩) n sc) := ⟨_, rfl⟩
    have BZ : BoxL Z (w.heap.size + 1) [.string ky, .string nm, .slice ta tn tc, .int .i64 1, .slice (some ⟨b, o, none⟩) n sc] := by rw [hZ]; exact boxL_set5 BY4 _ _ _ _ _
    have TZ : Turns (fun k => k = w.heap.size + 1) w4 Z := by rw [hZ]; exact turns_set5 _ _ _ _ _ _ _
    rw [← hZ]
    have KZ := heap_turns K4 TZ (by omega)
    have TP := turns_put Z D (.deferred none)
    have BP := boxL_turns BZ TP (by omega)
    have r0 := BP.1 0 _ rfl
    have r1 := BP.1 1 _ rfl
    have r2 := BP.1 2 _ rfl
    have r3 := BP.1 3 _ rfl
    have r4 := BP.1 4 _ rfl
    refine ⟨by simp, .inl ⟨_, _, rfl, run_takeDeferred KZ, ?_⟩⟩
    refine ⟨.agg #[.string ky, .string nm, .slice ta tn tc, .int .i64 1, .slice (some ⟨b, o, none⟩) n sc], by simp [results, Try.results30, go_sem, r0, r1, r2, r3, r4], ?_, ?_, ?_⟩
    ·
     have e : 1 = IS := by rw [HIS.out, ← HA.out]; rfl
     rw [e]
    ·
     exact (R4.turns TZ (by omega)).turns TP (by omega)
    ·
     exact turns_late (turns_late t4 (TZ.mono fun k hk => by subst hk; omega)) (TP.mono fun k hk => by subst hk; omega)
  case stop =>
   rintro D c pre V _ _ h _
   exact h.elim
end Go.Proofs.Ytdpljpjbomhccaa
namespace Go.Proofs.Ytdpljpjbomhccaa.Plain
open Go.RowKit
def bn (b : Bool) : Nat := if b then 1 else 0
end Go.Proofs.Ytdpljpjbomhccaa.Plain
namespace Go.Proofs.Ytdpljpjbomhccaa
open Go.RowKit Plain Go.ChangeShapes Go.WideShapes
set_option linter.unusedVariables false
def IsB (w : World) (a : Option Addr) (c : Nat) (l : List Bool) : Prop :=
 l.length ≤ c ∧ c ≤ maxLen ∧ ∀ j x, l[j]? = some x → ∃ b o, a = some ⟨b, o, none⟩ ∧ b < w.heap.size ∧ w.cell? ⟨b, o + j, none⟩ = some (.bool x)
theorem IsB.below {w w' : World} {a : Option Addr} {c : Nat} {l : List Bool} (h : IsB w a c l) (hb : Below w.heap.size w w') : IsB w' a c l := by
 refine ⟨h.1, h.2.1, fun j x hx => ?_⟩
 obtain ⟨b, o, ha, hlt, hc⟩ := h.2.2 j x hx
 exact ⟨b, o, ha, Nat.lt_of_lt_of_le hlt hb.size, by rw [hb.cell (p := ⟨b, o + j, none⟩) hlt]; exact hc⟩
def RowT (w : World) (g cap : Nat) (l : List Bool) : Prop :=
 ∃ cur : Array Value, w.heap[g]? = some (.cells cur 4 (0, 0)) ∧ cur.toList.take l.length = l.map Value.bool ∧ l.length ≤ cap ∧ cap ≤ maxLen ∧ cur.size = cap
theorem RowT.lt {w : World} {g cap : Nat} {l : List Bool} (h : RowT w g cap l) : g < w.heap.size := by
 obtain ⟨cur, hg, _⟩ := h
 exact (Array.getElem?_eq_some_iff.1 hg).1
theorem RowT.below {w w' : World} {g cap : Nat} {l : List Bool} (h : RowT w g cap l) (hb : Below w.heap.size w w') : RowT w' g cap l := by
 have hl := h.lt
 obtain ⟨cur, hg, hr⟩ := h
 exact ⟨cur, by rw [hb.block g hl]; exact hg, hr⟩
theorem RowT.cell {w : World} {g cap : Nat} {l : List Bool} (h : RowT w g cap l) {j : Nat} {x : Bool} (hx : l[j]? = some x) : w.cell? ⟨g, j, none⟩ = some (.bool x) ∧ w.frozen? ⟨g, j, none⟩ = false := by
 obtain ⟨cur, hg, ht, hl, _, hs⟩ := h
 have hj := (List.getElem?_eq_some_iff.1 hx).1
 have hc : cur[j]? = some (.bool x) := by
  rw [← Array.getElem?_toList]
  have : (cur.toList.take l.length)[j]? = some (.bool x) := by rw [ht, List.getElem?_map, hx]; rfl
  rwa [List.getElem?_take_of_lt hj] at this
 exact ⟨by rw [Joins.cell_of_block hg]; exact hc, Joins.unfrozen_of_block hg j⟩
theorem RowT.set {w : World} {g cap : Nat} {l : List Bool} (h : RowT w g cap l) (j : Nat) (x : Bool) : RowT (w.setCell ⟨g, j, none⟩ (.bool x)) g cap (l.set j x) := by
 obtain ⟨cur, hg, ht, hl, hm, hs⟩ := h
 refine ⟨_, Joins.block_setCell hg _, ?_, by rw [List.length_set]; exact hl, hm, by rw [Array.size_setIfInBounds]; exact hs⟩
 rw [List.length_set, Array.toList_setIfInBounds, List.take_set, ht, List.map_set]
theorem RowT.isB {w : World} {g cap : Nat} {l : List Bool} (h : RowT w g cap l) : IsB w (some ⟨g, 0, none⟩) cap l := by
 have hl := h.lt
 have hc := h
 obtain ⟨cur, hg, ht, h1, h2, hs⟩ := h
 exact ⟨h1, h2, fun j x hx => ⟨g, 0, rfl, hl, by rw [Nat.zero_add]; exact (hc.cell hx).1⟩⟩
theorem RowT.new (W : World) (n : Nat) {Z : Array Value} (hZ : Z = (List.replicate n (Value.bool false)).toArray) {g : Nat} (hg : g = W.heap.size) (hn : n ≤ maxLen) : RowT (W.alloc (.cells Z 4)) g n (List.replicate n false) := by
 subst hg hZ
 refine ⟨_, heap_new W _, ?_, by simp, hn, by simp⟩
 simp
end Go.Proofs.Ytdpljpjbomhccaa
namespace Go.Proofs.Ytdpljpjbomhccaa
set_option linter.unusedVariables false
theorem op_at {ops : Array Oper} {i : Nat} {o : Oper} {post : List Oper} (hd : ops.toList.drop i = o :: post) : ops[i]? = some o := by
 have h := List.getElem?_drop (xs := ops.toList) (i := i) (j := 0)
 rw [hd] at h
 simpa using h.symm
theorem take_at {P : Program} {ops : Array Oper} {Q : Exit → Act → World → Prop} {md : Region.Mode} {S : World → Prop} {i : Nat} {o : Oper} {post : List Oper} {v : Value} {fuel : Nat} {listed : Array Bool} {a : Act} {w : World}
  (hd : ops.toList.drop i = o :: post) (hs : Region.noSelect ops = true) (hf : Region.free md ops listed i = true) (hr : (Region.ready md ops listed).contains i = true)
  (hQ : ∀ c a w, Q (.panic c) (a.put o.dst v) w → Q (.panic c) a w) (hy : YieldsIf P ops S o v a) (hS : S w)
  (h : wpAnyH P md ops Q S fuel (listed.setIfInBounds i true) (a.put o.dst v) w) : wpAnyH P md ops Q S (fuel + 1) listed a w :=
 wpAnyH_take (op_at hd) hs hf hr hQ hy hS h
theorem cons_at {P : Program} {ops : Array Oper} {Q : Exit → Act → World → Prop} {md : Region.Mode} {S : World → Prop} {fuel : Nat} {listed : Array Bool} {a : Act} {w : World} {i : Nat} {o : Oper} {post : List Oper} {rs : List Nat}
  (hd : ops.toList.drop i = o :: post)
  (h : ∀ K' : Act → World → Prop, Shut (∀ a w, S w → (S w → wpAnyH P md ops Q S fuel (listed.setIfInBounds i true) a w) → K' a w) → if Region.wanted o (yielded ops a.tmps) = true then Oper.wp P o a w K' Q else K' (a.put o.dst undef) w)
  (hs : AllReadyH P md ops Q S fuel listed a w rs) : AllReadyH P md ops Q S fuel listed a w (i :: rs) :=
 AllReadyH.cons (op_at hd) h hs
end Go.Proofs.Ytdpljpjbomhccaa
namespace Go.Proofs.Ytdpljpjbomhccaa
open Go.RowKit Plain
set_option linter.unusedVariables false
theorem IsB.onAt {w : World} {a : Option Addr} {c : Nat} {l : List Bool} (h : IsB w a c l) {x : Nat} (hx : x < l.length) : ∃ b o, a = Option.some ⟨b, o, none⟩ ∧ b < w.heap.size ∧ w.cell? ⟨b, o + x, none⟩ = Option.some (.bool (Plain.onAt l x)) := by
 have hv : Plain.onAt l x = l[x] := by unfold Plain.onAt; rw [List.getElem?_eq_getElem hx]; rfl
 obtain ⟨b, o, ha, hl, hc⟩ := h.2.2 x l[x] (List.getElem?_eq_getElem hx)
 exact ⟨b, o, ha, hl, by rw [hv]; exact hc⟩
set_option maxRecDepth 20000 in
theorem missing_any (h : Nat) (ad : Option Addr) (cd m : Nat) (done : List Bool) (x : Nat) (V : World) (hc : V.cell? ⟨h, 0, none⟩ = some (.slice ad m cd)) (hm : m = done.length) (hB : IsB V ad cd done) (hx : x < m) :
  Calls Try.prog 99 #[.int .i64 x, .pointer (some ⟨h, 0, none⟩)] V fun e w' => e = .returned (.bool (!onAt done x)) ∧ V = w' := by
 obtain ⟨b, o, rfl, -, hd⟩ := hB.onAt (x := x) (by omega)
 have hx' : (x : Int) < m := by omega
 have hmc : m ≤ 9223372036854775807 := by rw [hm]; exact Nat.le_trans hB.1 hB.2.1
 generalize onAt done x = v at *
 clear hB hm
 go_enter Try.func99, Try.ntmps99
 go_wp2
 go_ret
 exact ⟨rfl, rfl⟩
def missB (done : List Bool) (ns : List Int) : Bool := ns.any fun x => !onAt done x.toNat
theorem missB_all (done : List Bool) (ns : List Int) : (!missB done ns) = ns.all fun x => onAt done x.toNat := by
 unfold missB
 induction ns with
 | nil => rfl
 | cons x xs ih => simp only [List.any_cons, List.all_cons, Bool.not_or, ih, Bool.not_not]
set_option maxRecDepth 20000 in
set_option maxHeartbeats 1000000 in
theorem indexMissing_any (h : Nat) (ad : Option Addr) (cd m : Nat) (done : List Bool) (a : Option Addr) (c k : Nat) (ns : List Int) (V : World) (hc : V.cell? ⟨h, 0, none⟩ = some (.slice ad m cd)) (hm : m = done.length) (hB : IsB V ad cd done) (hk : k = ns.length) (hI : IsI V a c ns) (hx : ∀ x ∈ ns, 0 ≤ x ∧ x < m) :
  Calls Try.prog 101 #[.slice a k c, .func (.func 99) #[] #[.pointer (some ⟨h, 0, none⟩)]] V fun e w' => ∃ r : Int, e = .returned (.int .i64 r) ∧ decide (0 ≤ r) = missB done ns ∧ V = w' := by
 have hkm : k ≤ 9223372036854775807 := by rw [hk]; exact Nat.le_trans hI.1 hI.2.1
 have HI : Hid (IsI V a c ns) := hI
 have HK : Hid (k = ns.length) := hk
 have HX : Hid (∀ x ∈ ns, 0 ≤ x ∧ x < m) := hx
 have cM : ∀ x : Nat, x < m → Calls Try.prog 99 #[.int .i64 x, .pointer (some ⟨h, 0, none⟩)] V fun e w' => e = .returned (.bool (!onAt done x)) ∧ V = w' := fun x hx => missing_any h ad cd m done x V hc hm hB hx
 clear hc hm hB hk hI hx
 go_enter Try.func101, Try.ntmps101
 go_wp2
 go_loopw [8] (fun v wr => ∃ j : Nat, j ≤ k ∧ v = .int .i64 j ∧ Hid (missB done (ns.take j) = false) ∧ wr = V) (fun v _ => k - (intOf v).toNat)
 case atStart => exact ⟨0, by omega, rfl, rfl, rfl⟩
 case round =>
  obtain ⟨j, hj, rfl, HM, rfl⟩ := hrel
  by_cases hlt : j < k
  ·
   have hlt' : (j : Int) < k := by omega
   obtain ⟨x, hx⟩ : ∃ x, ns[j]? = some x := ⟨_, List.getElem?_eq_getElem (by rw [← HK.out]; exact hlt)⟩
   obtain ⟨b, o, rfl, -, hc⟩ := HI.out.2.2 j x hx
   obtain ⟨h0, h1⟩ := HX.out x (List.mem_of_getElem? hx)
   obtain ⟨y, rfl⟩ : ∃ y : Nat, x = y := ⟨x.toNat, by omega⟩
   have cY := cM y (by omega)
   have HMn : Hid (missB done (ns.take (j + 1)) = (!onAt done y)) := by
    show _ = _
    have := HM.out
    unfold missB at this ⊢
    rw [List.take_add_one, hx, List.any_append, this]
    simp
   have HT : Hid (onAt done y = false → missB done ns = true) := fun e => by
    unfold missB
    rw [List.any_eq_true]
    exact ⟨(y : Int), List.mem_of_getElem? hx, by rw [Int.toNat_natCast, e]; rfl⟩
   clear cM hx h0 h1 HM
   cases hy : onAt done y with
   | true =>
    rw [hy] at cY HMn
    go_wp2_with (go_at_call 99; refine cY.mono ?_; rintro e w' ⟨rfl, rfl⟩)
    go_roundw
    case rel => exact ⟨j + 1, by omega, by go_num, HMn, trivial⟩
    case measure => simp [intOf]; omega
   | false =>
    rw [hy] at cY
    have e : Hid (missB done ns = true) := HT.out hy
    go_wp2_with (go_at_call 99; refine cY.mono ?_; rintro e w' ⟨rfl, rfl⟩)
    go_ret
    exact ⟨j, rfl, by rw [e.out, decide_eq_true_eq]; omega, rfl⟩
  ·
   obtain rfl : j = k := by omega
   have e : Hid (missB done ns = false) := by
    have := HM.out
    rw [HK.out, List.take_length] at this
    exact this
   have hx : ¬ (j : Int) < j := by omega
   clear HM cM
   go_wp2
   go_ret
   exact ⟨-1, rfl, by rw [e.out]; decide, rfl⟩
set_option maxRecDepth 20000 in
theorem containsMissing_any (h : Nat) (ad : Option Addr) (cd m : Nat) (done : List Bool) (a : Option Addr) (c k : Nat) (ns : List Int) (V : World) (hc : V.cell? ⟨h, 0, none⟩ = some (.slice ad m cd)) (hm : m = done.length) (hB : IsB V ad cd done) (hk : k = ns.length) (hI : IsI V a c ns) (hx : ∀ x ∈ ns, 0 ≤ x ∧ x < m) :
  Calls Try.prog 95 #[.slice a k c, .func (.func 99) #[] #[.pointer (some ⟨h, 0, none⟩)]] V fun e w' => e = .returned (.bool (missB done ns)) ∧ V = w' := by
 have cI := indexMissing_any h ad cd m done a c k ns V hc hm hB hk hI hx
 clear hc hm hB hk hI hx
 go_enter Try.func95, Try.ntmps95
 go_wp2_with (go_at_call 101; refine cI.mono ?_; rintro e w' ⟨r, rfl, hr, rfl⟩)
 all_goals (go_ret; exact ⟨by rw [← hr]; rfl, rfl⟩)
structure FreeAt (V : World) (h : Nat) (a : Option Addr) (c n : Nat) (ts : List TaskV) (ad : Option Addr) (cd m : Nat) (done : List Bool) : Prop where
 c0 : V.cell? ⟨h, 0, none⟩ = some (.slice a n c)
 c1 : V.cell? ⟨h + 1, 0, none⟩ = some (.slice ad m cd)
 c2 : V.cell? ⟨h + 1 + 1, 0, none⟩ = some (.func (.func 99) #[] #[.pointer (some ⟨h + 1, 0, none⟩)])
 hT : IsT V a c ts
 hB : IsB V ad cd done
 hn : n = ts.length
 hm : m = done.length
 hnm : n = m
 hin : Inside (plainT ts)
theorem FreeAt.below {V V' : World} {h : Nat} {a : Option Addr} {c n : Nat} {ts : List TaskV} {ad : Option Addr} {cd m : Nat} {done : List Bool} (f : FreeAt V h a c n ts ad cd m done) (hb : Below V.heap.size V V') : FreeAt V' h a c n ts ad cd m done :=
 ⟨cell_below hb f.c0, cell_below hb f.c1, cell_below hb f.c2, f.hT.below hb, f.hB.below hb, f.hn, f.hm, f.hnm, f.hin⟩
set_option maxRecDepth 20000 in
set_option maxHeartbeats 2000000 in
theorem isFree_any (h : Nat) (a : Option Addr) (c n : Nat) (ts : List TaskV) (ad : Option Addr) (cd m : Nat) (done : List Bool) (i : Nat) (V : World) (f : FreeAt V h a c n ts ad cd m done) (hi : i < n) :
  Calls Try.prog 100 #[.int .i64 i, .pointer (some ⟨h + 1, 0, none⟩), .pointer (some ⟨h, 0, none⟩), .pointer (some ⟨h + 1 + 1, 0, none⟩)] V fun e w' => e = .returned (.bool (freeB (plainT ts) done i)) ∧ Below V.heap.size V w' := by
 obtain ⟨c0, c1, c2, hT, hB, hn, hm, rfl, hin⟩ := f
 obtain ⟨bd, od, rfl, -, hd⟩ := hB.onAt (x := i) (by omega)
 obtain ⟨t, ht⟩ : ∃ t, ts[i]? = some t := ⟨_, List.getElem?_eq_getElem (by omega)⟩
 obtain ⟨b, o, rfl, -⟩ := hT.some (by omega)
 obtain ⟨z0, -, -, -, hI⟩ := hT.at ht
 have hi' : (i : Int) < n := by omega
 have hE : Hid (freeB (plainT ts) done i = (!onAt done i && !missB done t.ns)) := by
  show _ = _
  unfold freeB
  rw [missB_all, needsAt_get ht]
 have cC : ∀ X, Below V.heap.size V X → Calls Try.prog 95 #[.slice t.a t.ns.length t.c, .func (.func 99) #[] #[.pointer (some ⟨h + 1, 0, none⟩)]] X fun e w' => e = .returned (.bool (missB done t.ns)) ∧ X = w' := fun X hb => containsMissing_any (h + 1) _ cd n done t.a t.c t.ns.length t.ns X (cell_below hb c1) hm (hB.below hb) rfl (hI.below hb) (fun x hx => by
  have := hin i x (by rw [needsAt_get ht]; exact hx)
  rw [plainT_length] at this
  omega)
 have hnm : n ≤ 9223372036854775807 := by rw [hn]; exact Nat.le_trans hT.1 hT.2.1
 clear hT hB hn hm hin hI ht
 generalize t.a = ta at *
 generalize t.ns.length = k at *
 generalize t.c = tc at *
 generalize missB done t.ns = mb at *
 rw [hE.out]
 clear hE
 cases hv : onAt done i with
 | true =>
  rw [hv] at hd
  clear cC
  go_enter Try.func100, Try.ntmps100
  go_wp2
  refine wp_region_noPanic ?_
  refine wp_region_held_drew (S := fun X => X.cell? ⟨h + 1, 0, none⟩ = some (.slice (some ⟨bd, od, none⟩) n cd) ∧ X.cell? ⟨bd, od + i, none⟩ = some (.bool true)) (by kernel_rfl) ⟨c1, hd⟩ (fun hHeld => ?_)
  refine take_at (i := 0) (v := ?_) rfl (by kernel_rfl) (by kernel_rfl) (by kernel_rfl) (fun _ _ _ h => h) (Or.inl ⟨by rfl, ?_⟩) (by assumption) ?_
  rotate_left 1
  ·
   (intro w hSw; (try dsimp only at hSw); go_simp; (try with_reducible rfl))
  try go_frame
  refine take_at (i := 1) (v := ?_) rfl (by kernel_rfl) (by kernel_rfl) (by kernel_rfl) (fun _ _ _ h => h) (Or.inl ⟨by rfl, ?_⟩) (by assumption) ?_
  rotate_left 1
  ·
   (intro w hSw; (try dsimp only at hSw); go_simp; (try with_reducible rfl))
  try go_frame
  refine take_at (i := 2) (v := ?_) rfl (by kernel_rfl) (by kernel_rfl) (by kernel_rfl) (fun _ _ _ h => h) (Or.inl ⟨by rfl, ?_⟩) (by assumption) ?_
  rotate_left 1
  ·
   (intro w hSw; (try dsimp only at hSw); go_simp; (try with_reducible rfl))
  try go_frame
  refine take_at (i := 3) (v := ?_) rfl (by kernel_rfl) (by kernel_rfl) (by kernel_rfl) (fun _ _ _ h => h) (Or.inl ⟨by rfl, ?_⟩) (by assumption) ?_
  rotate_left 1
  ·
   (intro w hSw; (try dsimp only at hSw); go_simp; (try with_reducible rfl))
  try go_frame
  refine take_at (i := 4) (v := ?_) rfl (by kernel_rfl) (by kernel_rfl) (by kernel_rfl) (fun _ _ _ h => h) (Or.inl ⟨by rfl, ?_⟩) (by assumption) ?_
  rotate_left 1
  ·
   (intro w hSw; (try dsimp only at hSw); go_simp; (try with_reducible rfl))
  try go_frame
  refine take_at (i := 5) (v := ?_) rfl (by kernel_rfl) (by kernel_rfl) (by kernel_rfl) (fun _ _ _ h => h) (Or.inl ⟨by rfl, ?_⟩) (by assumption) ?_
  rotate_left 1
  ·
   (intro w hSw; (try dsimp only at hSw); go_simp; (try with_reducible rfl))
  try go_frame
  refine take_at (i := 6) (v := undef) rfl (by kernel_rfl) (by kernel_rfl) (by kernel_rfl) (fun _ _ _ h => h) (Or.inr ⟨by rfl, rfl⟩) (by assumption) ?_
  try go_frame
  refine take_at (i := 7) (v := undef) rfl (by kernel_rfl) (by kernel_rfl) (by kernel_rfl) (fun _ _ _ h => h) (Or.inr ⟨by rfl, rfl⟩) (by assumption) ?_
  try go_frame
  refine take_at (i := 8) (v := undef) rfl (by kernel_rfl) (by kernel_rfl) (by kernel_rfl) (fun _ _ _ h => h) (Or.inr ⟨by rfl, rfl⟩) (by assumption) ?_
  try go_frame
  refine take_at (i := 9) (v := undef) rfl (by kernel_rfl) (by kernel_rfl) (by kernel_rfl) (fun _ _ _ h => h) (Or.inr ⟨by rfl, rfl⟩) (by assumption) ?_
  try go_frame
  refine take_at (i := 10) (v := undef) rfl (by kernel_rfl) (by kernel_rfl) (by kernel_rfl) (fun _ _ _ h => h) (Or.inr ⟨by rfl, rfl⟩) (by assumption) ?_
  try go_frame
  refine take_at (i := 11) (v := undef) rfl (by kernel_rfl) (by kernel_rfl) (by kernel_rfl) (fun _ _ _ h => h) (Or.inr ⟨by rfl, rfl⟩) (by assumption) ?_
  try go_frame
  refine take_at (i := 12) (v := undef) rfl (by kernel_rfl) (by kernel_rfl) (by kernel_rfl) (fun _ _ _ h => h) (Or.inr ⟨by rfl, rfl⟩) (by assumption) ?_
  try go_frame
  refine take_at (i := 13) (v := undef) rfl (by kernel_rfl) (by kernel_rfl) (by kernel_rfl) (fun _ _ _ h => h) (Or.inr ⟨by rfl, rfl⟩) (by assumption) ?_
  try go_frame
  refine take_at (i := 14) (v := ?_) rfl (by kernel_rfl) (by kernel_rfl) (by kernel_rfl) (fun _ _ _ h => h) (Or.inl ⟨by rfl, ?_⟩) (by assumption) ?_
  rotate_left 1
  ·
   (intro w hSw; (try dsimp only at hSw); go_simp; (try with_reducible rfl))
  try go_frame
  refine take_at (i := 15) (v := ?_) rfl (by kernel_rfl) (by kernel_rfl) (by kernel_rfl) (fun _ _ _ h => h) (Or.inl ⟨by rfl, ?_⟩) (by assumption) ?_
  rotate_left 1
  ·
   (intro w hSw; (try dsimp only at hSw); go_simp; (try with_reducible rfl))
  try go_frame
  refine wpAnyH_done (by kernel_rfl) ?_ _
  refine NoPanic.normal ?_
  go_wp2
  go_ret
  exact ⟨rfl, (Below.refl _ _).drew⟩
 | false =>
  rw [hv] at hd
  go_enter Try.func100, Try.ntmps100
  go_wp2
  go_region_held3 (fun X => X.cell? ⟨h + 1, 0, none⟩ = some (.slice (some ⟨bd, od, none⟩) n cd) ∧ X.cell? ⟨bd, od + i, none⟩ = some (.bool false) ∧ X.cell? ⟨h, 0, none⟩ = some (.slice (some ⟨b, o, none⟩) n c) ∧ X.cell? ⟨b, o + i * 4, none⟩ = some (.slice ta k tc) ∧ X.cell? ⟨h + 1 + 1, 0, none⟩ = some (.func (.func 99) #[] #[.pointer (some ⟨h + 1, 0, none⟩)])) (exact ⟨c1, hd, c0, z0, c2⟩) (first
   | (go_at_call 95; refine (cC _ (Below.refl _ _).drew).mono ?_; rintro e w' ⟨rfl, rfl⟩))
  go_wp2
  go_ret
  exact ⟨rfl, (Below.refl _ _).drew⟩
end Go.Proofs.Ytdpljpjbomhccaa
namespace Go.Proofs.Ytdpljpjbomhccaa
open Go.RowKit Plain
end Go.Proofs.Ytdpljpjbomhccaa
namespace Go.Proofs.Ytdpljpjbomhccaa
open Go.RowKit Plain Go.ChangeShapes Go.WideShapes
set_option linter.unusedVariables false
theorem cell_set_other {w : World} {h k i j : Nat} {x u : Value} (hn : h ≠ k ∨ i ≠ j) (hx : w.cell? ⟨h, i, none⟩ = some x) : (w.setCell ⟨k, j, none⟩ u).cell? ⟨h, i, none⟩ = some x := by
 rw [World.cell?_setCell_other _ _ _ _ (fun hh => by cases hh; rcases hn with hn | hn <;> exact hn rfl)]; exact hx
end Go.Proofs.Ytdpljpjbomhccaa
namespace Go.Proofs.Ytdpljpjbomhccaa
open Go.RowKit Plain
set_option linter.unusedVariables false
def intsN (l : List Nat) : List Int := l.map (fun x : Nat => (x : Int))
theorem intsN_length (l : List Nat) : (intsN l).length = l.length := by simp [intsN]
theorem intsN_append (l m : List Nat) : intsN (l ++ m) = intsN l ++ intsN m := by simp [intsN]
def freeTo (ts : List TaskP) (done : List Bool) (j : Nat) : List Nat := (List.range j).filter (freeB ts done)
theorem freeTo_yes {ts : List TaskP} {done : List Bool} {j : Nat} (h : freeB ts done j = true) : freeTo ts done (j + 1) = freeTo ts done j ++ [j] := by
 unfold freeTo; rw [List.range_succ, List.filter_append, List.filter_cons, if_pos h]; rfl
theorem freeTo_no {ts : List TaskP} {done : List Bool} {j : Nat} (h : freeB ts done j = false) : freeTo ts done (j + 1) = freeTo ts done j := by
 unfold freeTo; rw [List.range_succ, List.filter_append, List.filter_cons, if_neg (by rw [h]; decide)]; simp
theorem freeTo_le (ts : List TaskP) (done : List Bool) (j : Nat) : (freeTo ts done j).length ≤ j := by
 unfold freeTo
 have := List.length_filter_le (freeB ts done) (List.range j)
 rw [List.length_range] at this
 exact this
def ThoseC (w : World) (ts : List TaskV) (done : List Bool) (e : Ending) (w' : World) : Prop :=
 ∃ a c k, e = .returned (.slice a k c) ∧ k = (freeL (plainT ts) done).length ∧ IsI w' a c (intsN (freeL (plainT ts) done)) ∧ From w.heap.size a ∧ Below w.heap.size w w'
set_option maxRecDepth 20000 in
set_option maxHeartbeats 2000000 in
theorem those_any (h : Nat) (a : Option Addr) (c n : Nat) (ts : List TaskV) (ad : Option Addr) (cd m : Nat) (done : List Bool) (w : World) (f : FreeAt w h a c n ts ad cd m done) (h20 : n ≤ 20) :
  Calls Try.prog 93 #[.int .i64 n, .func (.func 100) #[] #[.pointer (some ⟨h + 1, 0, none⟩), .pointer (some ⟨h, 0, none⟩), .pointer (some ⟨h + 1 + 1, 0, none⟩)]] w fun e w' => ThoseC w ts done e w' := by
 have HF : Hid (FreeAt w h a c n ts ad cd m done) := f
 have HN : Hid ((plainT ts).length = n) := by show _ = _; rw [plainT_length]; exact f.hn.symm
 clear f
 go_enter Try.func93, Try.ntmps93
 go_wp2
 go_loopw [5, 8] (fun b v wr => ∃ j k : Nat, j ≤ n ∧ v = .int .i64 j ∧ Hid (k = (freeTo (plainT ts) done j).length) ∧ wr.ownsRow w.heap.size 3 1 b k ((intsN (freeTo (plainT ts) done j)).map (Value.int .i64)) ∧ Below w.heap.size w wr) (fun _ v _ => n - (intOf v).toNat)
 case atStart => exact ⟨0, 0, by omega, rfl, rfl, World.ownsRow_nil _ _ _ _, Below.refl _ _⟩
 case round =>
  obtain ⟨j, k, hj, rfl, HK, own, hB⟩ := hrel
  have hk20 : k ≤ 20 := by have := freeTo_le (plainT ts) done j; have := HK.out; omega
  by_cases hlt : j < n
  ·
   have hlt' : (j : Int) < n := by omega
   have cF := isFree_any h a c n ts ad cd m done j wr (HF.out.below hB) hlt
   cases hf : freeB (plainT ts) done j with
   | true =>
    rw [hf] at cF
    have HF1 : Hid (freeTo (plainT ts) done (j + 1) = freeTo (plainT ts) done j ++ [j]) := freeTo_yes hf
    clear hf
    go_wp2_with (first
     | (go_at_call 100; refine cF.mono ?_; rintro e w2 ⟨rfl, hb⟩; have hB2 := Below.tr hB hb; obtain ⟨g, cap, w3, hrun, own3, hgr, -, -, -⟩ := push_Z w2 w.heap.size _ k _ (j : Int) ((Turns.of_below (P := fun _ => False) hb).owns own (fun _ _ x => x)) hB2.size (by omega); have hB3 : Below w.heap.size w w3 := (hB2.alloc hB2.size _).grown hgr (Nat.le_trans hB2.size (by simp)) (fun i hi => (own.lt i hi).1); clear own hgr cF)
     | (at_builtin; refine Lib.wpList_append_run _ rfl _ _ _ _ rfl _ _ rfl rfl _ _ hrun ?_)
     )
    go_roundw
    case rel => exact ⟨j + 1, k + 1, by omega, by go_num, by show _ = _; rw [HF1.out, List.length_append, ← HK.out]; rfl, by rw [HF1.out, intsN_append]; exact own3, hB3⟩
    case measure => simp [intOf]; omega
   | false =>
    rw [hf] at cF
    have HF1 : Hid (freeTo (plainT ts) done (j + 1) = freeTo (plainT ts) done j) := freeTo_no hf
    clear hf
    go_wp2_with (go_at_call 100; refine cF.mono ?_; rintro e w2 ⟨rfl, hb⟩; have hB2 := Below.tr hB hb; have own2 := (Turns.of_below (P := fun _ => False) hb).owns own (fun _ _ x => x); clear own)
    go_roundw
    case rel => exact ⟨j + 1, k, by omega, by go_num, by show _ = _; rw [HF1.out]; exact HK.out, by rw [HF1.out]; exact own2, hB2⟩
    case measure => simp [intOf]; omega
  ·
   obtain rfl : j = n := by omega
   obtain ⟨a', c', rfl, -, hI, hFr⟩ := owns_I own
   have E : Hid (freeTo (plainT ts) done j = freeL (plainT ts) done) := by show _ = _; unfold freeL; rw [HN.out]; rfl
   have hx : ¬ (j : Int) < j := by omega
   clear own
   go_wp2
   go_ret
   exact ⟨a', c', k, rfl, by rw [← E.out]; exact HK.out, by rw [← E.out]; exact hI, hFr, hB⟩
set_option maxRecDepth 20000 in
theorem freeBy_any (a : Option Addr) (c n : Nat) (ts : List TaskV) (ad : Option Addr) (cd m : Nat) (done : List Bool) (w : World) (hn : n = ts.length) (hm : m = done.length) (hnm : n = m) (hT : IsT w a c ts) (hB : IsB w ad cd done) (hin : Inside (plainT ts)) :
  Calls Try.prog 92 #[.slice a n c, .slice ad m cd] w fun e w' => e = .returned (.func (.func 100) #[] #[.pointer (some ⟨w.heap.size + 1, 0, none⟩), .pointer (some ⟨w.heap.size, 0, none⟩), .pointer (some ⟨w.heap.size + 1 + 1, 0, none⟩)]) ∧ FreeAt w' w.heap.size a c n ts ad cd m done ∧ Below w.heap.size w w' := by
 obtain ⟨X, hX⟩ : ∃ X, X = ((w.alloc (.cells #[.slice a n c] 22)).alloc (.cells #[.slice ad m cd] 56)).alloc (.cells #[.func (.func 99) #[] #[.pointer (some ⟨w.heap.size + 1, 0, none⟩)]] 93) := ⟨_, rfl⟩
 have hb : Below w.heap.size w X := by rw [hX]; exact (((Below.refl _ _).alloc (Nat.le_refl _) _).alloc (by simp) _).alloc (by simp; omega) _
 have s1 : (w.alloc (.cells #[.slice a n c] 22)).heap.size = w.heap.size + 1 := by simp
 have s2 : ((w.alloc (.cells #[.slice a n c] 22)).alloc (.cells #[.slice ad m cd] 56)).heap.size = w.heap.size + 1 + 1 := by simp
 have x0 : X.cell? ⟨w.heap.size, 0, none⟩ = some (.slice a n c) := by rw [hX]; exact cell_alloc (cell_alloc (World.cell?_alloc_at _ _ _ _ rfl) _) _
 have x1 : X.cell? ⟨w.heap.size + 1, 0, none⟩ = some (.slice ad m cd) := by rw [hX]; refine cell_alloc ?_ _; rw [← s1]; exact World.cell?_alloc_at _ _ _ _ rfl
 have x2 : X.cell? ⟨w.heap.size + 1 + 1, 0, none⟩ = some (.func (.func 99) #[] #[.pointer (some ⟨w.heap.size + 1, 0, none⟩)]) := by rw [hX, ← s2]; exact World.cell?_alloc_at _ _ _ _ rfl
 have fin : Hid (FreeAt X w.heap.size a c n ts ad cd m done) := ⟨x0, x1, x2, hT.below hb, hB.below hb, hn, hm, hnm, hin⟩
 clear hn hm hT hB hin hnm x0 x1 x2 s1 s2
 rw [hX] at fin hb
 clear hX
 go_enter Try.func92, Try.ntmps92
 go_wp2
 go_ret
 exact ⟨rfl, fin.out, hb⟩
def lenV : Value → Nat
 | .slice _ n _ => n
 | _ => 0
def OrderC (w : World) (ts : List TaskV) (e : Ending) (w' : World) : Prop :=
 ∃ a c k, e = .returned (.slice a k c) ∧ k = (orderL (plainT ts)).length ∧ IsI w' a c (intsN (orderL (plainT ts))) ∧ Below w.heap.size w w'
theorem ordD_full {ts : List TaskP} {k : Nat} (h : (ordD ts k).2.length = k) : k ≤ ts.length := by
 have hat := ordD_at ts k
 have := howMany_le (ordD ts k).1
 rw [hat.many, hat.len, h] at this
 exact this
set_option maxRecDepth 20000 in
set_option maxHeartbeats 4000000 in
theorem inOrder_any (a : Option Addr) (c n : Nat) (ts : List TaskV) (w : World) (hn : n = ts.length) (hT : IsT w a c ts) (hin : Inside (plainT ts)) (h20 : n ≤ 20) :
  Calls Try.prog 69 #[.slice a n c] w fun e w' => OrderC w ts e w' := by
 have hPn : (plainT ts).length = n := by rw [plainT_length]; exact hn.symm
 obtain ⟨Z, hmk, hZ⟩ : ∃ Z : Array Value, (∀ W : World, (Instr.makeSlice 56 (.int .i64 n) (.int .i64 n)).run Try.prog W = .ok (.slice (some ⟨W.heap.size, 0, none⟩) n n) (W.alloc (.cells Z 4))) ∧ Z = (List.replicate n (Value.bool false)).toArray :=
  ⟨madeCells #[.bool false] n, fun W => run_make_row' (P := Try.prog) 56 4 (.bool false) 1 Try.underlying56 Try.info4 rfl .i64 .i64 n (by omega) (by omega) W, made_one _ n⟩
 obtain ⟨W1, hW1⟩ : ∃ W1, W1 = w.alloc (.cells Z 4) := ⟨_, rfl⟩
 have R1 : RowT W1 w.heap.size n (List.replicate n false) := by rw [hW1]; exact RowT.new w n hZ rfl (by unfold maxLen; omega)
 have B1 : Below w.heap.size w W1 := by rw [hW1]; exact (Below.refl _ _).alloc (Nat.le_refl _) _
 have z1 : W1.heap.size = w.heap.size + 1 := by rw [hW1]; simp
 have cB := freeBy_any a c n ts (some ⟨w.heap.size, 0, none⟩) n n (List.replicate n false) W1 hn (by simp) rfl (hT.below B1) R1.isB hin
 rw [z1] at cB
 have HT : Hid (IsT w a c ts) := hT
 have HN : Hid (n = ts.length) := hn
 have HP : Hid ((plainT ts).length = n) := hPn
 have HI : Hid (Inside (plainT ts)) := hin
 have HC : ∀ (wr : World) (done : List Bool), Below w.heap.size w wr → wr.cell? ⟨w.heap.size + 1, 0, none⟩ = some (.slice a n c) → wr.cell? ⟨w.heap.size + 1 + 1, 0, none⟩ = some (.slice (some ⟨w.heap.size, 0, none⟩) n n) → wr.cell? ⟨w.heap.size + 1 + 1 + 1, 0, none⟩ = some (.func (.func 99) #[] #[.pointer (some ⟨w.heap.size + 1 + 1, 0, none⟩)]) → RowT wr w.heap.size n done → done.length = n → FreeAt wr (w.heap.size + 1) a c n ts (some ⟨w.heap.size, 0, none⟩) n n done :=
  fun wr done hb h0 h1 h2 hr hl => ⟨h0, h1, h2, hT.below hb, hr.isB, hn, hl.symm, rfl, hin⟩
 replace HC : Hid _ := HC
 clear hT hn hPn hin hZ
 go_enter Try.func69, Try.ntmps69
 go_wp2_with (first
  | (go_at_call 92; go_loud (rw [← hW1]; refine cB.mono ?_; rintro e w2 ⟨rfl, f2, b2⟩; replace b2 : Below W1.heap.size W1 w2 := (by rw [z1]; exact b2); have B2 := Below.tr B1 b2; have R2 := R1.below b2; have cT := those_any (w.heap.size + 1) a c n ts _ n n _ w2 f2 h20; clear cB R1 B1))
  | (go_at_call 93; refine cT.mono ?_; rintro e w3 ⟨af, cf, k0, rfl, hk0', hI0, hF0, b3⟩; have hk0 : Hid _ := hk0'; clear hk0'; have B3 := Below.tr B2 b3; have R3 := R2.below b3; have f3 := f2.below b3; have s3 : w.heap.size + 4 ≤ w3.heap.size := (by have := cell_lt f3.c2; have : w.heap.size + 1 + 1 + 1 < w3.heap.size := this; omega); have s2 : w.heap.size + 4 ≤ w2.heap.size := (by have := cell_lt f2.c2; have : w.heap.size + 1 + 1 + 1 < w2.heap.size := this; omega); clear cT R2 B2))
 trace_state
 have e0 : Hid (ordD (plainT ts) 0 = (List.replicate n false, [])) := by show (List.replicate _ false, _) = _; rw [HP.out]
 go_loopw [3, 6] (fun b f wr => ∃ (k : Nat) (ab : Option Addr) (cb : Nat) (af : Option Addr) (kf cf : Nat), b = .slice ab k cb ∧ wr.ownsRow (w.heap.size + 4) 3 1 b k ((intsN (ordD (plainT ts) k).2).map (Value.int .i64)) ∧ Hid ((ordD (plainT ts) k).2.length = k) ∧ f = .slice af kf cf ∧ Hid (kf = (freeL (plainT ts) (ordD (plainT ts) k).1).length) ∧ IsI wr af cf (intsN (freeL (plainT ts) (ordD (plainT ts) k).1)) ∧ From (w.heap.size + 4) af ∧ RowT wr w.heap.size n (ordD (plainT ts) k).1 ∧ wr.cell? ⟨w.heap.size + 1, 0, none⟩ = some (.slice a n c) ∧ wr.cell? ⟨w.heap.size + 1 + 1, 0, none⟩ = some (.slice (some ⟨w.heap.size, 0, none⟩) n n) ∧ wr.cell? ⟨w.heap.size + 1 + 1 + 1, 0, none⟩ = some (.func (.func 99) #[] #[.pointer (some ⟨w.heap.size + 1 + 1, 0, none⟩)]) ∧ Below w.heap.size w wr) (fun b _ _ => n - lenV b)
 case atStart =>
  refine ⟨0, none, 0, af, k0, cf, rfl, ?_, ?_, rfl, ?_, ?_, fun x hx => by have := hF0 x hx; omega, ?_, f3.c0, f3.c1, f3.c2, B3⟩
  ·
   rw [e0.out]; exact World.ownsRow_nil _ _ _ _
  ·
   show _ = 0; rw [e0.out]; rfl
  ·
   show _ = _; rw [e0.out]; exact hk0.out
  ·
   rw [e0.out]; exact hI0
  ·
   rw [e0.out]; exact R3
 case round =>
  clear hI0 hF0 R3 B3 f3 f2 hk0 hmk hW1 s2 s3 e0 z1
  obtain ⟨k, ab, cb, af', kf, cf', rfl, own, HK, rfl, HKF, hI, hF, R, x0, x1, x2, hB⟩ := hrel
  have hkn : k ≤ n := by have := ordD_full HK.out; have := HP.out; omega
  by_cases h0 : 0 < kf
  ·
   have h0' : (0 : Int) < kf := by omega
   obtain ⟨x, l, hL⟩ : ∃ x l, freeL (plainT ts) (ordD (plainT ts) k).1 = x :: l := by
    cases hh : freeL (plainT ts) (ordD (plainT ts) k).1 with
    | nil => have := HKF.out; rw [hh] at this; simp at this; omega
    | cons x l => exact ⟨x, l, rfl⟩
   have hx := (mem_freeL.1 (show x ∈ freeL (plainT ts) (ordD (plainT ts) k).1 by rw [hL]; simp)).1
   rw [HP.out] at hx
   have hst : Hid (ordD (plainT ts) (k + 1) = ((ordD (plainT ts) k).1.set x true, (ordD (plainT ts) k).2 ++ [x])) := ordD_cons hL
   have HK2 : Hid ((ordD (plainT ts) (k + 1)).2.length = k + 1) := by show _ = _; rw [hst.out, List.length_append, HK.out]; rfl
   have hk1 : k + 1 ≤ n := by have := ordD_full HK2.out; have := HP.out; omega
   have hxn : (x : Int) < n := by omega
   obtain ⟨bf, ff, rfl, hfl, hf0⟩ := hI.2.2 0 (x : Int) (by rw [hL]; rfl)
   have hf4 : w.heap.size + 4 ≤ bf := hF _ rfl
   rw [Nat.add_zero] at hf0
   have hkf : kf ≤ cf' := by have := hI.1; rw [intsN_length, ← HKF.out] at this; exact this
   have hcf : cf' ≤ 9223372036854775807 := hI.2.1
   obtain ⟨W2, hW2⟩ : ∃ W2, W2 = wr.setCell ⟨w.heap.size, x, none⟩ (.bool true) := ⟨_, rfl⟩
   have zW : W2.heap.size = wr.heap.size := by rw [hW2]; simp
   have hT2 : Turns (fun i => i = w.heap.size) wr W2 := by rw [hW2]; exact (Turns.refl (fun i => i = w.heap.size) wr).setCell (p := ⟨w.heap.size, x, none⟩) rfl _
   have own2 := hT2.owns own (fun g hg e => by have := (own.lt g hg).1; omega)
   have hB2 : Below w.heap.size w W2 := Below.turns hB hT2 (fun i hi => by omega)
   have R2 : RowT W2 w.heap.size n ((ordD (plainT ts) k).1.set x true) := by rw [hW2]; exact R.set x true
   obtain ⟨xv, hxv⟩ : ∃ xv, (ordD (plainT ts) k).1[x]? = some xv := ⟨_, List.getElem?_eq_getElem (by rw [(ordD_at (plainT ts) k).len, HP.out]; exact hx)⟩
   obtain ⟨hd0, hd1⟩ := R.cell hxv
   have x0' := hT2.cell (p := ⟨w.heap.size + 1, 0, none⟩) (by show ¬ w.heap.size + 1 = _; omega) x0
   have x1' := hT2.cell (p := ⟨w.heap.size + 1 + 1, 0, none⟩) (by show ¬ w.heap.size + 1 + 1 = _; omega) x1
   have x2' := hT2.cell (p := ⟨w.heap.size + 1 + 1 + 1, 0, none⟩) (by show ¬ w.heap.size + 1 + 1 + 1 = _; omega) x2
   have hf0' := hT2.cell (p := ⟨bf, ff, none⟩) (by show ¬ bf = _; omega) hf0
   have h4 : w.heap.size + 4 ≤ W2.heap.size := by have : w.heap.size + 1 + 1 + 1 < W2.heap.size := cell_lt x2'; omega
   obtain ⟨g, cap, w3, hrun, own3, hgr, -, -, hg3⟩ := push_Z W2 (w.heap.size + 4) _ k _ (x : Int) own2 h4 (by omega)
   have hT3 : Turns (fun i => w.heap.size + 4 ≤ i) W2 w3 := ((Turns.refl _ _).alloc _).grown hgr (fun i hi => (own2.lt i hi).1)
   have hB3 : Below w.heap.size w w3 := Below.turns hB2 hT3 (fun i hi => by omega)
   have R3 : RowT w3 w.heap.size n ((ordD (plainT ts) k).1.set x true) := by
    obtain ⟨cur, hcur, hr⟩ := R2
    exact ⟨cur, by rw [hT3.block _ (by omega) (by omega)]; exact hcur, hr⟩
   have y0 := hT3.cell (p := ⟨w.heap.size + 1, 0, none⟩) (by show ¬ _ ≤ w.heap.size + 1; omega) x0'
   have y1 := hT3.cell (p := ⟨w.heap.size + 1 + 1, 0, none⟩) (by show ¬ _ ≤ w.heap.size + 1 + 1; omega) x1'
   have y2 := hT3.cell (p := ⟨w.heap.size + 1 + 1 + 1, 0, none⟩) (by show ¬ _ ≤ w.heap.size + 1 + 1 + 1; omega) x2'
   have hlen : ((ordD (plainT ts) k).1.set x true).length = n := by rw [List.length_set, (ordD_at (plainT ts) k).len, HP.out]
   have cT := those_any (w.heap.size + 1) a c n ts _ n n _ w3 (HC.out w3 _ hB3 y0 y1 y2 R3 hlen) h20
   rw [zW] at hrun
   have OW : Hid (w3.ownsRow (w.heap.size + 4) 3 1 (.slice (some ⟨g, 0, none⟩) (k + 1) cap) (k + 1) ((intsN (ordD (plainT ts) (k + 1)).2).map (Value.int .i64))) := by
    show World.ownsRow _ _ _ _ _ _ _
    rw [hst.out, intsN_append]
    exact own3
   rw [show ((ordD (plainT ts) k).1.set x true) = (ordD (plainT ts) (k + 1)).1 by rw [hst.out]] at cT R3
   rw [hW2] at hrun hf0'
   have h43 : w.heap.size + 4 ≤ w3.heap.size := by have : w.heap.size + 1 + 1 + 1 < w3.heap.size := cell_lt y2; omega
   clear hI hF R R2 own own2 own3 hgr hT2 hT3 x0 x1 x2 x0' x1' x2' hB hB2 hL hlen hst hW2 zW HK HKF h4 hg3 hxv
   go_wp2_with (first
    | (go_at_call 93; refine cT.mono ?_; rintro e w4 ⟨af2, cf2, k2, rfl, hk2', hI2, hF2, b4⟩; have hk2 : Hid _ := hk2'; clear hk2' cT)
    | (at_builtin; refine Lib.wpList_append_run _ rfl _ _ _ _ rfl _ _ rfl rfl _ _ hrun ?_)
    )
   go_roundw
   case rel =>
    exact ⟨k + 1, some ⟨g, 0, none⟩, cap, af2, k2, cf2, rfl, (Turns.of_below (P := fun _ => False) b4).owns OW.out (fun _ _ x => x), HK2, rfl, hk2, hI2, hF2.mono h43, R3.below b4, cell_below b4 y0, cell_below b4 y1, cell_below b4 y2, Below.tr hB3 b4⟩
   case measure => simp [lenV]; omega
  ·
   obtain rfl : kf = 0 := by omega
   have hL : freeL (plainT ts) (ordD (plainT ts) k).1 = [] := List.length_eq_zero_iff.1 HKF.out.symm
   have E : Hid (orderL (plainT ts) = (ordD (plainT ts) k).2) := orderL_stop (by rw [HP.out]; exact hkn) hL
   obtain ⟨a2, c2, e2, -, hI2, -⟩ := owns_I own
   obtain ⟨rfl, rfl⟩ : ab = a2 ∧ cb = c2 := by cases e2; exact ⟨rfl, rfl⟩
   have fin : Hid (OrderC w ts (.returned (.slice ab k cb)) wr) := ⟨ab, cb, k, rfl, by rw [E.out]; exact HK.out.symm, by rw [E.out]; exact hI2, hB⟩
   clear own hI hF R x0 x1 x2 hL e2 hI2 HK HKF E h0
   go_wp2
   go_ret
   exact fin.out
theorem isName_any (s : ByteArray) (w : World) : Calls Try.prog 67 #[.string s] w fun e w' => e = .returned (.bool (nameB s)) ∧ w = w' := by
 by_cases h0 : s.size = 0
 ·
  have hs : s = ⟨#[]⟩ := ByteArray.ext (Array.ext_getElem? (fun i => by
   have : s.data.size = 0 := h0
   rw [Array.getElem?_eq_none (by omega)]; rfl))
  subst hs
  have e : nameB ⟨#[]⟩ = false := by decide
  rw [e]
  go_enter Try.func67, Try.ntmps67
  go_wp2
  go_ret
  exact ⟨rfl, rfl⟩
 ·
  have hne : ¬ s = ⟨#[]⟩ := fun h => h0 (by rw [h]; rfl)
  have q1 := str_ne_true hne
  have q2 : s.toList.isEmpty = false := by
   rw [ByteArray.toList_eq]
   cases hd : s.data.toList with
   | nil => exfalso; apply h0; show s.data.size = 0; rw [← Array.length_toList, hd]; rfl
   | cons x xs => rfl
  by_cases h1 : s.size ≤ 16
  ·
   have e : nameB s = true := by unfold nameB; rw [decide_eq_true_eq]; omega
   rw [e]
   have h1' : (s.size : Int) ≤ 16 := by omega
   go_enter Try.func67, Try.ntmps67
   go_wp2
   go_ret
   exact ⟨rfl, rfl⟩
  ·
   have e : nameB s = false := by unfold nameB; rw [decide_eq_false_iff_not]; omega
   rw [e]
   have h1' : ¬ (s.size : Int) ≤ 16 := by omega
   go_enter Try.func67, Try.ntmps67
   go_wp2
   go_ret
   exact ⟨rfl, rfl⟩
set_option maxRecDepth 20000 in
set_option maxHeartbeats 1000000 in
theorem areNeeds_any (a : Option Addr) (c k n : Nat) (ns : List Int) (w : World) (hk : k = ns.length) (hI : IsI w a c ns) (hn : n ≤ 4096) :
  Calls Try.prog 91 #[.slice a k c, .int .i64 n] w fun e w' => e = .returned (.bool (needsB n 0 ns)) ∧ w = w' := by
 have hkm : k ≤ 9223372036854775807 := by rw [hk]; exact Nat.le_trans hI.1 hI.2.1
 have HI : Hid (IsI w a c ns) := hI
 have HK : Hid (k = ns.length) := hk
 clear hI hk
 go_enter Try.func91, Try.ntmps91
 go_wp2
 go_loopw [5, 10] (fun b v wr => ∃ (j : Nat) (l : Int), j ≤ k ∧ v = .int .i64 j ∧ b = .int .i64 l ∧ 0 ≤ l ∧ Hid (l = nextN 0 (ns.take j)) ∧ Hid (needsB n 0 (ns.take j) = true) ∧ w = wr) (fun _ v _ => k - (intOf v).toNat)
 case atStart => exact ⟨0, 0, by omega, rfl, rfl, Int.le_refl _, rfl, rfl, rfl⟩
 case round =>
  obtain ⟨j, l, hj, rfl, rfl, hl, HL, HB, rfl⟩ := hrel
  by_cases hlt : j < k
  ·
   have hlt' : (j : Int) < k := by omega
   obtain ⟨x, hx⟩ : ∃ x, ns[j]? = some x := ⟨_, List.getElem?_eq_getElem (by rw [← HK.out]; exact hlt)⟩
   obtain ⟨b, o, rfl, -, hc⟩ := HI.out.2.2 j x hx
   by_cases h1 : l ≤ x
   ·
    have h1' : ¬ x < l := by omega
    by_cases h2 : x < n
    ·
     have h2' : ¬ (n : Int) ≤ x := by omega
     have h0 : 0 ≤ x := by omega
     have hL2 : Hid (x + 1 = nextN 0 (ns.take (j + 1))) := (nextN_take hx).symm
     have hB2 : Hid (needsB n 0 (ns.take (j + 1)) = true) := needsB_take hx HB.out (by rw [← HL.out]; exact h1) h2
     clear hx HL HB
     go_wp2
     go_roundw
     case rel => exact ⟨j + 1, x + 1, by omega, by go_num, rfl, by omega, hL2, hB2, trivial⟩
     case measure => simp [intOf]; omega
    ·
     have h2' : (n : Int) ≤ x := by omega
     have e : Hid (needsB n 0 ns = false) := needsB_bad hx (fun h => h2 h.2)
     clear hx HL HB
     go_wp2
     go_ret
     exact ⟨by rw [e.out]; rfl, rfl⟩
   ·
    have h1' : x < l := by omega
    have e : Hid (needsB n 0 ns = false) := needsB_bad hx (fun h => h1 (by rw [HL.out]; exact h.1))
    clear hx HL HB
    go_wp2
    go_ret
    exact ⟨by rw [e.out]; rfl, rfl⟩
  ·
   obtain rfl : j = k := by omega
   have e : Hid (needsB n 0 ns = true) := by
    have := HB.out
    rw [HK.out, List.take_length] at this
    exact this
   have hx : ¬ (j : Int) < j := by omega
   clear HL HB
   go_wp2
   go_ret
   exact ⟨by rw [e.out]; rfl, rfl⟩
set_option maxRecDepth 20000 in
set_option maxHeartbeats 2000000 in
theorem areTasks_any (a : Option Addr) (c n : Nat) (ts : List TaskV) (w : World) (hn : n = ts.length) (hT : IsT w a c ts) (h10 : n ≤ 10) :
  Calls Try.prog 68 #[.slice a n c] w fun e w' => e = .returned (.bool (decide (0 < n) && tasksB (plainT ts))) ∧ Below w.heap.size w w' := by
 have HT : Hid (IsT w a c ts) := hT
 have HN : Hid (n = ts.length) := hn
 have HP : Hid ((plainT ts).length = n) := by show _ = _; rw [plainT_length, hn]
 clear hT hn
 go_enter Try.func68, Try.ntmps68
 go_wp2
 go_loopw [7] (fun v wr => ∃ j : Nat, j ≤ n ∧ v = .int .i64 j ∧ Hid (TasksTo n (plainT ts) j) ∧ Below w.heap.size w wr) (fun v _ => n - (intOf v).toNat)
 case atStart => exact ⟨0, by omega, rfl, fun i t h => by omega, Below.refl _ _⟩
 case round =>
  obtain ⟨j, hj, rfl, HA, hB⟩ := hrel
  by_cases hlt : j < n
  ·
   have hlt' : (j : Int) < n := by omega
   obtain ⟨t, ht⟩ : ∃ t, ts[j]? = some t := ⟨_, List.getElem?_eq_getElem (by rw [← HN.out]; exact hlt)⟩
   obtain ⟨b, o, rfl, hlb, c0, c1, c2, c3⟩ := HT.out.2.2.2 j t ht
   have z0 := cell_below hB c0
   have z1 := cell_below hB c1
   have z2 := cell_below hB c2
   have z3 := cell_below hB c3
   have hI := (HT.out.2.2.1 t (List.mem_of_getElem? ht)).below hB
   have cN : ∀ V, Below wr.heap.size wr V → Calls Try.prog 91 #[.slice t.a t.ns.length t.c, .int .i64 n] V fun e w' => e = .returned (.bool (needsB n 0 t.ns)) ∧ V = w' := fun V h => areNeeds_any t.a t.c t.ns.length n t.ns V rfl (hI.below h) (by omega)
   have hal : ∀ o', Below wr.heap.size wr (wr.alloc o') := fun o' => (Below.refl _ _).alloc (Nat.le_refl _) o'
   have bad : Hid (taskB n t.p = false → tasksB (plainT ts) = false) := fun h => tasksB_bad (plainT_get ht) (by rw [HP.out]; exact h)
   have good : Hid (taskB n t.p = true → TasksTo n (plainT ts) (j + 1)) := fun h => tasksTo_succ HA.out (plainT_get ht) h
   have hA : Hid (needsB n 0 t.ns = true → 1 ≤ t.tr ∧ t.tr ≤ 8 ∧ 0 ≤ t.wt ∧ t.wt ≤ 1048576 ∧ 1 ≤ t.le ∧ t.le ≤ 1048576 → taskB n t.p = true) := fun h1 h2 => (taskB_iff _ _).2 ⟨h1, h2⟩
   have hNo : Hid (¬ (needsB n 0 t.ns = true ∧ 1 ≤ t.tr ∧ t.tr ≤ 8 ∧ 0 ≤ t.wt ∧ t.wt ≤ 1048576 ∧ 1 ≤ t.le ∧ t.le ≤ 1048576) → taskB n t.p = false) := fun h => by rw [Bool.eq_false_iff]; exact fun h' => h ((taskB_iff _ _).1 h')
   generalize t.ns.length = k at *
   generalize t.tr = tr at *
   generalize t.wt = wt at *
   generalize t.le = le at *
   generalize t.a = ta at *
   generalize t.c = tc at *
   clear c0 c1 c2 c3 hI ht HA
   have hB2 : ∀ o', Below w.heap.size w (wr.alloc o') := fun o' => hB.alloc hB.size o'
   have hq0 : 0 < n := by omega
   cases hN : needsB n 0 t.ns with
   | false =>
    rw [hN] at cN hA hNo
    have e : Hid (tasksB (plainT ts) = false) := bad.out (hNo.out (fun h => by cases h.1))
    clear bad good hA hNo hN
    go_wp2_with (go_at_call 91; refine (cN _ (hal _)).mono ?_; rintro y w' ⟨rfl, rfl⟩)
    go_ret
    exact ⟨by rw [e.out, Bool.and_false]; rfl, hB2 _⟩
   | true =>
    rw [hN] at cN hA hNo
    clear hN
    by_cases h1 : 1 ≤ tr
    ·
     have h1' : ¬ tr < 1 := by omega
     by_cases h2 : tr ≤ 8
     ·
      have h2' : ¬ 8 < tr := by omega
      by_cases h3 : 0 ≤ wt
      ·
       have h3' : ¬ wt < 0 := by omega
       by_cases h4 : wt ≤ 1048576
       ·
        have h4' : ¬ 1048576 < wt := by omega
        by_cases h5 : 1 ≤ le
        ·
         have h5' : ¬ le < 1 := by omega
         by_cases h6 : le ≤ 1048576
         ·
          have h6' : ¬ 1048576 < le := by omega
          have G : Hid (TasksTo n (plainT ts) (j + 1)) := good.out (hA.out rfl ⟨h1, h2, h3, h4, h5, h6⟩)
          clear bad good hA hNo
          go_wp2_with (go_at_call 91; refine (cN _ (hal _)).mono ?_; rintro y w' ⟨rfl, rfl⟩)
          go_roundw
          case rel => exact ⟨j + 1, by omega, by go_num, G, hB2 _⟩
          case measure => simp [intOf]; omega
         ·
          have h6' : 1048576 < le := by omega
          have e : Hid (tasksB (plainT ts) = false) := bad.out (hNo.out (fun h => by omega))
          clear bad good hA hNo
          go_wp2_with (go_at_call 91; refine (cN _ (hal _)).mono ?_; rintro y w' ⟨rfl, rfl⟩)
          go_ret
          exact ⟨by rw [e.out, Bool.and_false]; rfl, hB2 _⟩
        ·
         have h5' : le < 1 := by omega
         have e : Hid (tasksB (plainT ts) = false) := bad.out (hNo.out (fun h => by omega))
         clear bad good hA hNo
         go_wp2_with (go_at_call 91; refine (cN _ (hal _)).mono ?_; rintro y w' ⟨rfl, rfl⟩)
         go_ret
         exact ⟨by rw [e.out, Bool.and_false]; rfl, hB2 _⟩
       ·
        have h4' : 1048576 < wt := by omega
        have e : Hid (tasksB (plainT ts) = false) := bad.out (hNo.out (fun h => by omega))
        clear bad good hA hNo
        go_wp2_with (go_at_call 91; refine (cN _ (hal _)).mono ?_; rintro y w' ⟨rfl, rfl⟩)
        go_ret
        exact ⟨by rw [e.out, Bool.and_false]; rfl, hB2 _⟩
      ·
       have h3' : wt < 0 := by omega
       have e : Hid (tasksB (plainT ts) = false) := bad.out (hNo.out (fun h => by omega))
       clear bad good hA hNo
       go_wp2_with (go_at_call 91; refine (cN _ (hal _)).mono ?_; rintro y w' ⟨rfl, rfl⟩)
       go_ret
       exact ⟨by rw [e.out, Bool.and_false]; rfl, hB2 _⟩
     ·
      have h2' : 8 < tr := by omega
      have e : Hid (tasksB (plainT ts) = false) := bad.out (hNo.out (fun h => by omega))
      clear bad good hA hNo
      go_wp2_with (go_at_call 91; refine (cN _ (hal _)).mono ?_; rintro y w' ⟨rfl, rfl⟩)
      go_ret
      exact ⟨by rw [e.out, Bool.and_false]; rfl, hB2 _⟩
    ·
     have h1' : tr < 1 := by omega
     have e : Hid (tasksB (plainT ts) = false) := bad.out (hNo.out (fun h => by omega))
     clear bad good hA hNo
     go_wp2_with (go_at_call 91; refine (cN _ (hal _)).mono ?_; rintro y w' ⟨rfl, rfl⟩)
     go_ret
     exact ⟨by rw [e.out, Bool.and_false]; rfl, hB2 _⟩
  ·
   obtain rfl : j = n := by omega
   have e : Hid (tasksB (plainT ts) = true) := tasksTo_all (by rw [HP.out]; exact HA.out)
   have hx : ¬ (j : Int) < j := by omega
   clear HA
   by_cases h0 : 0 < j
   ·
    have h0' : (0 : Int) < j := by omega
    go_wp2
    go_ret
    exact ⟨by rw [e.out]; rfl, hB⟩
   ·
    obtain rfl : j = 0 := by omega
    go_wp2
    go_ret
    exact ⟨rfl, hB⟩
set_option maxRecDepth 20000 in
set_option maxHeartbeats 2000000 in
theorem right16_any (s : ByteArray) (a : Option Addr) (c n : Nat) (ts : List TaskV) (w : World) (hn : n = ts.length) (hT : IsT w a c ts) :
  Calls Try.prog 29 #[.agg #[.string s, .slice a n c]] w fun e w' => e = .returned (.int .i64 (rightG s (plainT ts))) ∧ Below w.heap.size w w' := by
 have hP : (plainT ts).length = n := by rw [plainT_length]; exact hn.symm
 have hnm : n ≤ 9223372036854775807 := by rw [hn]; exact Nat.le_trans hT.1 hT.2.1
 have hB0 : Below w.heap.size w (w.alloc (.cells #[.string s, .slice a n c] 24)) := (Below.refl _ _).alloc (Nat.le_refl _) _
 by_cases h10 : 10 < n
 ·
  have h10' : (10 : Int) < n := by omega
  have E : Hid (rightG s (plainT ts) = 2) := rightG_long (by rw [hP]; exact h10)
  clear hn hT hP
  go_enter Try.func29, Try.ntmps29
  go_wp2
  go_ret
  exact ⟨by rw [E.out]; rfl, hB0⟩
 ·
  have h10' : ¬ (10 : Int) < n := by omega
  have cN := fun V => isName_any s V
  cases hm : nameB s with
  | false =>
   rw [hm] at cN
   have E : Hid (rightG s (plainT ts) = 1) := rightG_arg (by rw [hP]; exact h10) (by rw [hm]; rfl)
   clear hn hT hP hm
   go_enter Try.func29, Try.ntmps29
   go_wp2_with (go_at_call 67; refine (cN _).mono ?_; rintro e w2 ⟨rfl, rfl⟩)
   go_ret
   exact ⟨by rw [E.out]; rfl, hB0⟩
  | true =>
   rw [hm] at cN
   have bx := boxL_new w [.string s, .slice a n c] 24 rfl
   obtain ⟨W, hW⟩ : ∃ W, W = w.alloc (.cells #[.string s, .slice a n c] 24) := ⟨_, rfl⟩
   have bX : BoxL W w.heap.size [.string s, .slice a n c] := by rw [hW]; exact bx
   rw [← hW] at hB0
   have cA := areTasks_any a c n ts W hn (hT.below hB0) (by omega)
   cases ha : (decide (0 < n) && tasksB (plainT ts)) with
   | false =>
    rw [ha] at cA
    have E : Hid (rightG s (plainT ts) = 1) := rightG_arg (by rw [hP]; exact h10) (by rw [hm, hP, Bool.true_and]; exact ha)
    have q1 := bX.1 1 _ rfl
    clear hn hT hP hm bx bX ha
    rw [hW] at q1
    go_enter Try.func29, Try.ntmps29
    go_wp2_with (first
     | (go_at_call 67; refine (cN _).mono ?_; rintro e w2 ⟨rfl, rfl⟩)
     | (go_at_call 68; rw [← hW]; refine cA.mono ?_; rintro e w2 ⟨rfl, hb⟩; have hB2 := Below.tr hB0 hb))
    go_ret
    exact ⟨by rw [E.out]; rfl, hB2⟩
   | true =>
    rw [ha] at cA
    rw [Bool.and_eq_true, decide_eq_true_eq] at ha
    have hin := tasksB_inside ha.2
    have cI : ∀ V, Below w.heap.size w V → Calls Try.prog 69 #[.slice a n c] V fun e w' => ∃ a' c' k, e = .returned (.slice a' k c') ∧ Hid (k = (orderL (plainT ts)).length) ∧ k ≤ 10 ∧ Below V.heap.size V w' := fun V hb => (inOrder_any a c n ts V hn (hT.below hb) hin (by omega)).mono (by
     rintro e w' ⟨a', c', k, he, hk, _, hb2⟩
     refine ⟨a', c', k, he, hk, ?_, hb2⟩
     have hat := ordD_at (plainT ts) (plainT ts).length
     have := howMany_le (ordD (plainT ts) (plainT ts).length).1
     rw [hat.many, hat.len] at this
     have h2 : (orderL (plainT ts)).length ≤ (plainT ts).length := this
     omega)
    have EC : Hid ((orderL (plainT ts)).length < n → rightG s (plainT ts) = 160) := fun h => rightG_cycle (by omega) (by rw [hm, hP, Bool.true_and, Bool.and_eq_true, decide_eq_true_eq]; exact ha) (by omega)
    have EZ : Hid (¬ (orderL (plainT ts)).length < n → rightG s (plainT ts) = 0) := fun h => rightG_zero (by omega) (by rw [hm, hP, Bool.true_and, Bool.and_eq_true, decide_eq_true_eq]; exact ha) (by omega)
    have q1 := bX.1 1 _ rfl
    have HX : Hid (BoxL W w.heap.size [.string s, .slice a n c]) := bX
    clear hn hT hP hm bx bX ha hin
    rw [hW] at q1
    go_enter Try.func29, Try.ntmps29
    go_wp2_with (first
     | (go_at_call 67; refine (cN _).mono ?_; rintro e w2 ⟨rfl, rfl⟩)
     | (go_at_call 68; rw [← hW]; refine cA.mono ?_; rintro e w2 ⟨rfl, hb⟩; have hB2 := Below.tr hB0 hb; have q2 := (HX.out.below hb).1 1 _ rfl))
    clear hW q1 cN cA HX hB0 hb
    go_region_held3 (fun X => X.cell? ⟨w.heap.size, 1, none⟩ = some (.slice a n c)) (exact q2) (first
     | (go_at_call 69; refine (cI _ hB2.drew).mono ?_; rintro e w3 ⟨a', c', k, rfl, HK, hk10, hb3⟩; have hB3 := Below.tr hB2.drew hb3; replace q2 := cell_below hb3 q2))
    by_cases hkn : k < n
    ·
     have E : Hid (rightG s (plainT ts) = 160) := EC.out (by rw [← HK.out]; exact hkn)
     have hd : decide (k < n) = true := decide_eq_true hkn
     clear EC EZ HK
     go_wp2
     go_ret
     exact ⟨by rw [E.out]; rfl, hB3⟩
    ·
     have E : Hid (rightG s (plainT ts) = 0) := EZ.out (by rw [← HK.out]; exact hkn)
     have hd : decide (k < n) = false := decide_eq_false hkn
     clear EC EZ HK
     go_wp2
     go_ret
     exact ⟨by rw [E.out]; rfl, hB3⟩
end Go.Proofs.Ytdpljpjbomhccaa
namespace Go.Proofs.Ytdpljpjbomhccaa.Plain
open Go.RowKit
set_option linter.unusedVariables false
def OverTo (ss : List StP) (u : Int) (k : Nat) : Option Nat → Prop
 | none => ∀ (j : Nat) v, j < k → ss[j]? = some v → ¬ (v.i = 2 ∧ v.d ≤ u)
 | some i => i < k ∧ ∃ s, ss[i]? = some s ∧ s.i = 2 ∧ s.d ≤ u ∧ ∀ (j : Nat) v, j < k → ss[j]? = some v → v.i = 2 → v.d ≤ u → s.d ≤ v.d ∧ (v.d = s.d → i ≤ j)
theorem overTo_step {ss : List StP} {u : Int} {k : Nat} {o : Option Nat} (h : OverTo ss u k o) : OverTo ss u (k + 1) (stepO ss u o k) := by
 unfold stepO
 cases hs : ss[k]? with
 | none =>
  cases o with
  | none =>
   intro j v hj hv
   by_cases e : j = k
   ·
    subst e; rw [hs] at hv; cases hv
   ·
    exact h j v (by omega) hv
  | some i =>
   obtain ⟨hi, s, h1, h2, h3, h4⟩ := h
   refine ⟨by omega, s, h1, h2, h3, fun j v hj hv => ?_⟩
   by_cases e : j = k
   ·
    subst e; rw [hs] at hv; cases hv
   ·
    exact h4 j v (by omega) hv
 | some s =>
  show OverTo ss u (k + 1) (if s.i = 2 ∧ s.d ≤ u then _ else o)
  by_cases hc : s.i = 2 ∧ s.d ≤ u
  ·
   rw [if_pos hc]
   cases o with
   | none =>
    refine ⟨by omega, s, hs, hc.1, hc.2, fun j v hj hv h2 h3 => ?_⟩
    by_cases e : j = k
    ·
     subst e
     rw [hs] at hv
     obtain rfl := Option.some.inj hv
     exact ⟨Int.le_refl _, fun _ => Nat.le_refl _⟩
    ·
     exact absurd ⟨h2, h3⟩ (h j v (by omega) hv)
   | some i =>
    obtain ⟨hi, v, h1, h2, h3, h4⟩ := h
    show OverTo ss u (k + 1) (match ss[i]? with | some v => if s.d < v.d then some k else some i | none => some i)
    rw [h1]
    show OverTo ss u (k + 1) (if s.d < v.d then some k else some i)
    by_cases hl : s.d < v.d
    ·
     rw [if_pos hl]
     refine ⟨by omega, s, hs, hc.1, hc.2, fun j y hj hy a b => ?_⟩
     by_cases e : j = k
     ·
      subst e
      rw [hs] at hy
      obtain rfl := Option.some.inj hy
      exact ⟨Int.le_refl _, fun _ => Nat.le_refl _⟩
     ·
      have := h4 j y (by omega) hy a b
      omega
    ·
     rw [if_neg hl]
     refine ⟨by omega, v, h1, h2, h3, fun j y hj hy a b => ?_⟩
     by_cases e : j = k
     ·
      subst e
      rw [hs] at hy
      obtain rfl := Option.some.inj hy
      omega
     ·
      exact h4 j y (by omega) hy a b
  ·
   rw [if_neg hc]
   cases o with
   | none =>
    intro j v hj hv
    by_cases e : j = k
    ·
     subst e
     rw [hs] at hv
     obtain rfl := Option.some.inj hv
     exact hc
    ·
     exact h j v (by omega) hv
   | some i =>
    obtain ⟨hi, v, h1, h2, h3, h4⟩ := h
    refine ⟨by omega, v, h1, h2, h3, fun j y hj hy a b => ?_⟩
    by_cases e : j = k
    ·
     subst e
     rw [hs] at hy
     obtain rfl := Option.some.inj hy
     exact absurd ⟨a, b⟩ hc
    ·
     exact h4 j y (by omega) hy a b
theorem overTo_fold (ss : List StP) (u : Int) : ∀ k, OverTo ss u k ((List.range k).foldl (stepO ss u) none)
 | 0 => fun j v hj => by omega
 | k + 1 => by
  rw [List.range_succ, List.foldl_append]
  exact overTo_step (overTo_fold ss u k)
theorem overN_fold (ss : List StP) (u : Int) : overN ss u = (List.range ss.length).foldl (stepO ss u) none := rfl
theorem overN_some {ss : List StP} {u : Int} {i : Nat} (h : overN ss u = some i) : OverAt ss u i := by
 have := overTo_fold ss u ss.length
 rw [← overN_fold, h] at this
 obtain ⟨_, s, h1, h2, h3, h4⟩ := this
 exact ⟨s, h1, h2, h3, fun j v hv => h4 j v (List.getElem?_eq_some_iff.1 hv).1 hv⟩
def failI (ts : List TaskP) (ss : List StP) (i : Nat) : StP :=
 match ss[i]?, ts[i]? with
 | some s, some t => failT t.tries t.wait s s.d
 | _, _ => zeroT
def stepS (ts : List TaskP) (u : Int) (x : List StP × Int) : List StP × Int :=
 match overN x.1 u with
 | none => x
 | some i => mendS ts (x.1.set i (failI ts x.1 i)) x.2
def againS {α : Type} (f : α → α) : Nat → α → α
 | 0, x => x
 | n + 1, x => againS f n (f x)
theorem again_add {α : Type} (f : α → α) (m n : Nat) (x : α) : againS f (m + n) x = againS f n (againS f m x) := by
 induction m generalizing x with
 | zero => rw [Nat.zero_add]; rfl
 | succ m ih => rw [Nat.succ_add]; exact ih (f x)
theorem again_fix {α : Type} {f : α → α} {x : α} (h : f x = x) (n : Nat) : againS f n x = x := by
 induction n with
 | zero => rfl
 | succ n ih => show againS f n (f x) = x; rw [h]; exact ih
def settleS (ts : List TaskP) (u : Int) (x : List StP × Int) : List StP × Int := againS (stepS ts u) x.1.length x
theorem mend_len (ts : List TaskP) (ss : List StP) (is : Int) : (mendS ts ss is).1.length = ss.length := by
 unfold mendS
 split
 ·
  exact List.length_map _
 ·
  exact List.length_mapIdx
theorem step_len (ts : List TaskP) (u : Int) (x : List StP × Int) : (stepS ts u x).1.length = x.1.length := by
 unfold stepS
 cases overN x.1 u with
 | none => rfl
 | some i => show (mendS _ _ _).1.length = _; rw [mend_len, List.length_set]
def heldN (ss : List StP) : Nat := ss.countP fun s => decide (s.i = 2)
theorem fail_kind {tr wt : Int} {s : StP} {now : Int} : (failT tr wt s now).i ≠ 2 := by
 unfold failT
 split
 ·
  split <;> simp
 ·
  simp [zeroT]
theorem held_set {ss : List StP} {i : Nat} {s x : StP} (hs : ss[i]? = some s) (h2 : s.i = 2) (hx : x.i ≠ 2) : heldN (ss.set i x) < heldN ss := by
 obtain ⟨hl, he⟩ := List.getElem?_eq_some_iff.1 hs
 unfold heldN
 rw [List.countP_set hl, he]
 have h1 : (decide (s.i = 2)) = true := by simpa using h2
 have h0 : (decide (x.i = 2)) = false := by simpa using hx
 rw [h1, h0]
 have hpos : 0 < ss.countP fun s => decide (s.i = 2) := List.countP_pos_iff.2 ⟨s, List.mem_of_getElem? hs, h1⟩
 simp
 omega
theorem held_mend (ts : List TaskP) (ss : List StP) (is : Int) : heldN (mendS ts ss is).1 ≤ heldN ss := by
 unfold mendS heldN
 split
 ·
  show (ss.map cancelT).countP _ ≤ _
  rw [List.countP_map]
  refine List.countP_mono_left fun s _ h => ?_
  simp only [Function.comp, decide_eq_true_eq] at h ⊢
  rw [cancel_i] at h
  split at h <;> omega
 ·
  show (ss.mapIdx _).countP _ ≤ _
  rw [List.mapIdx_eq_zipIdx_map, List.countP_map]
  have e : ss.countP (fun s => decide (s.i = 2)) = (ss.zipIdx.map Prod.fst).countP (fun s => decide (s.i = 2)) := by rw [List.zipIdx_map_fst]
  rw [e, List.countP_map]
  refine List.countP_mono_left fun p _ h => ?_
  simp only [Function.comp, decide_eq_true_eq] at h ⊢
  split at h
  ·
   rw [ready_i] at h
   split at h <;> omega
  ·
   exact h
theorem step_held {ts : List TaskP} {u : Int} {x : List StP × Int} {i : Nat} (h : overN x.1 u = some i) : heldN (stepS ts u x).1 < heldN x.1 := by
 obtain ⟨s, hs, h2, -, -⟩ := overN_some h
 have e : stepS ts u x = mendS ts (x.1.set i (failI ts x.1 i)) x.2 := by unfold stepS; rw [h]
 rw [e]
 refine Nat.lt_of_le_of_lt (held_mend _ _ _) (held_set hs h2 ?_)
 unfold failI
 rw [hs]
 cases ts[i]? with
 | none => simp [zeroT]
 | some t => exact fail_kind
theorem step_fix {ts : List TaskP} {u : Int} {x : List StP × Int} (h : overN x.1 u = none) : stepS ts u x = x := by unfold stepS; rw [h]
theorem again_none (ts : List TaskP) (u : Int) : ∀ (n : Nat) (x : List StP × Int), heldN x.1 ≤ n → overN (againS (stepS ts u) n x).1 u = none
 | 0, x, h => by
  cases hx : overN x.1 u with
  | none => exact hx
  | some i =>
   have := step_held (ts := ts) hx
   omega
 | n + 1, x, h => by
  cases hx : overN x.1 u with
  | none => rw [again_fix (step_fix hx)]; exact hx
  | some i => exact again_none ts u n _ (by have := step_held (ts := ts) hx; omega)
theorem held_le (ss : List StP) : heldN ss ≤ ss.length := List.countP_le_length
theorem settle_fix {ts : List TaskP} {u : Int} {x : List StP × Int} (h : overN x.1 u = none) : settleS ts u x = x := again_fix (step_fix h) _
theorem settle_none (ts : List TaskP) (u : Int) (x : List StP × Int) : overN (settleS ts u x).1 u = none := again_none ts u _ x (held_le _)
theorem open_goes {ss : List StP} {is : Int} (h : fitsS ss is = true) (ho : openS ss = true) : is = 0 := by
 unfold fitsS at h
 rw [if_neg (fun hh => by rw [ho] at hh; cases hh.1)] at h
 by_cases h4 : hasK ss 4 = true
 ·
  rw [if_pos h4, ho] at h
  simp at h
 ·
  rw [if_neg h4, if_neg (fun hh => by rw [ho] at hh; cases hh)] at h
  simp at h
  exact h.1
theorem held_open {ss : List StP} {i : Nat} {s : StP} (hs : ss[i]? = some s) (h : s.i = 0 ∨ s.i = 1 ∨ s.i = 2) : openS ss = true := by
 unfold openS
 rcases h with h | h | h
 ·
  rw [(hasK_iff ss 0).2 ⟨i, s, hs, h⟩]; rfl
 ·
  rw [(hasK_iff ss 1).2 ⟨i, s, hs, h⟩]; simp
 ·
  rw [(hasK_iff ss 2).2 ⟨i, s, hs, h⟩]; simp
theorem fail_parts {tr wt now : Int} {s : StP} (h : s.i = 2) : (failT tr wt s now).k = 0 ∧ (failT tr wt s now).i ≠ 5 := by
 unfold failT
 rw [if_pos h]
 split <;> exact ⟨rfl, by simp⟩
theorem step_right {ts : List TaskP} (ht : ∀ (i : Nat) t, ts[i]? = some t → 1 ≤ t.tries) {u : Int} {x : List StP × Int} (h : RightS ts x.1 x.2) : RightS ts (stepS ts u x).1 (stepS ts u x).2 := by
 cases hx : overN x.1 u with
 | none => rw [step_fix hx]; exact h
 | some i =>
  obtain ⟨s, hs, h2, -, -⟩ := overN_some hx
  have h0 := open_goes h.fits (held_open hs (.inr (.inr h2)))
  have e : stepS ts u x = mendS ts (x.1.set i (failI ts x.1 i)) 0 := by unfold stepS; rw [hx, h0]
  rw [e]
  obtain ⟨t, ht'⟩ := h.task hs
  have hf : failI ts x.1 i = failT t.tries t.wait s s.d := by unfold failI; rw [hs, ht']
  rw [hf]
  rw [h0] at h
  refine mend_right ht (loose_set h hs ht' (right_fail (h.each i s t hs ht').right h2).1 (by omega) (by omega) (fail_parts h2).2 ?_)
  intro hk
  rw [(fail_parts h2).1] at hk
  omega
theorem settle_right {ts : List TaskP} (ht : ∀ (i : Nat) t, ts[i]? = some t → 1 ≤ t.tries) {u : Int} {x : List StP × Int} (h : RightS ts x.1 x.2) : RightS ts (settleS ts u x).1 (settleS ts u x).2 := by
 unfold settleS
 generalize x.1.length = n
 induction n generalizing x with
 | zero => exact h
 | succ n ih => exact ih (step_right ht h)
end Go.Proofs.Ytdpljpjbomhccaa.Plain
namespace Go.Proofs.Ytdpljpjbomhccaa
open Go.RowKit Plain Anylast
set_option linter.unusedVariables false
def zerosS (n : Nat) : List StP := List.replicate n zeroT
theorem made_zeros (n : Nat) : (madeCells (Value.agg #[.int .i64 0, .int .i64 0, .int .i64 0, .int .i64 0, .string ⟨#[]⟩]).cells (n * 5)).toList = cellsZ (zerosS n) := by
 refine List.ext_getElem? fun i => ?_
 have hsz : (Value.agg #[.int .i64 0, .int .i64 0, .int .i64 0, .int .i64 0, .string ⟨#[]⟩]).cells = #[.int .i64 0, .int .i64 0, .int .i64 0, .int .i64 0, .string ⟨#[]⟩] := rfl
 rw [hsz]
 by_cases hi : i < n * 5
 ·
  have hm : i % 5 < 5 := Nat.mod_lt _ (by decide)
  obtain ⟨c0, c1, c2, c3, c4⟩ := cellsZ_at (ss := zerosS n) (i := i / 5) (s := zeroT) (by unfold zerosS; rw [List.getElem?_replicate, if_pos (by omega)])
  have hl : (madeCells #[Value.int .i64 0, .int .i64 0, .int .i64 0, .int .i64 0, .string ⟨#[]⟩] (n * 5)).toList[i]? = some (#[Value.int .i64 0, .int .i64 0, .int .i64 0, .int .i64 0, .string ⟨#[]⟩][i % 5]!) := by
   unfold madeCells
   rw [Array.getElem?_toList, Array.getElem?_map, Array.getElem?_range, if_pos hi]
   rfl
  rw [hl]
  have e : i = i / 5 * 5 + i % 5 := by omega
  generalize i / 5 = q at *
  generalize i % 5 = r at *
  subst e
  match r, hm with
  | 0, _ => rw [Nat.add_zero, c0]; rfl
  | 1, _ => rw [c1]; rfl
  | 2, _ => rw [c2]; rfl
  | 3, _ => rw [c3]; rfl
  | 4, _ => rw [c4]; rfl
 ·
  rw [List.getElem?_eq_none (by rw [Array.length_toList, size_madeCells]; omega), List.getElem?_eq_none (by rw [cellsZ_length]; unfold zerosS; rw [List.length_replicate]; omega)]
theorem zeros_isZ (W : World) (n : Nat) (h10 : n ≤ 10) : IsZ (W.alloc (.cells (madeCells (Value.agg #[.int .i64 0, .int .i64 0, .int .i64 0, .int .i64 0, .string ⟨#[]⟩]).cells (n * 5)) 52)) (some ⟨W.heap.size, 0, none⟩) n (zerosS n) := by
 have hl : (zerosS n).length = n := by unfold zerosS; rw [List.length_replicate]
 refine ⟨by rw [hl]; exact Nat.le_refl _, by unfold maxLen; omega, fun j s hs => ⟨_, 0, rfl, by simp, ?_, ?_⟩⟩
 ·
  obtain ⟨c0, c1, c2, c3, c4⟩ := cellsZ_at hs
  rw [← made_zeros, Array.getElem?_toList] at c0 c1 c2 c3 c4
  rw [Nat.zero_add]
  exact ⟨(World.cell?_alloc_at _ _ _ _ rfl).trans c0, (World.cell?_alloc_at _ _ _ _ rfl).trans c1, (World.cell?_alloc_at _ _ _ _ rfl).trans c2, (World.cell?_alloc_at _ _ _ _ rfl).trans c3, (World.cell?_alloc_at _ _ _ _ rfl).trans c4⟩
 ·
  unfold zerosS at hs
  rw [List.getElem?_replicate] at hs
  split at hs
  ·
   cases hs; exact Nat.zero_le _
  ·
   cases hs
def NewC (w : World) (ky nm : ByteArray) (tv : List TaskV) (e : Ending) (w' : World) : Prop :=
 ∃ g h n cap capS tw, e = .returned (.tuple #[.agg #[.string ky, .string nm, .slice (some ⟨g, 0, none⟩) n cap, .int .i64 (mendS (plainT tv) (zerosS tv.length) 0).2, .slice (some ⟨h, 0, none⟩) n capS], .int .i64 0]) ∧ plainT tw = plainT tv ∧ OwnRun w' w.heap.size g h n cap capS tw (mendS (plainT tv) (zerosS tv.length) 0).1 ∧ Below w.heap.size w w'
theorem tasks_of' {s : ByteArray} {tv : List TaskV} (h : rightG s (plainT tv) = 0) {t : TaskV} (ht : t ∈ tv) : t.ns.length ≤ 4096 := by
 obtain ⟨h1, -, -, h4, -⟩ := rightG_ok h
 obtain ⟨j, hj⟩ := List.getElem?_of_mem ht
 have := tasksB_at h4 (plainT_get hj)
 unfold taskB at this
 simp only [Bool.and_eq_true, decide_eq_true_eq] at this
 have a := this.1
 rw [plainT_length] at a h1
 rcases needsB_len a with hl | hl
 ·
  have : (t.ns.length : Int) ≤ tv.length - 0 := hl
  omega
 ·
  have : t.ns = [] := hl
  rw [this]
  exact Nat.zero_le _
set_option maxRecDepth 20000 in
set_option maxHeartbeats 4000000 in
theorem new_any (ky nm : ByteArray) (ta : Option Addr) (n tc : Nat) (tv : List TaskV) (w : World) (hkm : ky.size ≤ maxLen) (hT : IsT w ta tc tv) (htn : n = tv.length) (hk : 1 ≤ ky.size ∧ ky.size ≤ 16) (hd : rightG nm (plainT tv) = 0) :
  Calls Try.prog 10 #[.string ky, .agg #[.string nm, .slice ta n tc]] w fun e w' => NewC w ky nm tv e w' := by
 obtain ⟨h10, h0, hin⟩ := inside_of htn hd
 obtain ⟨tb, to, rfl, -⟩ := hT.some (by omega)
 obtain ⟨W0, hW0⟩ : ∃ W0, W0 = (w.alloc (.cells #[.string nm, .slice (some ⟨tb, to, none⟩) n tc] 24)).alloc (.cells #[.string ⟨#[]⟩, .string ⟨#[]⟩, .slice none 0 0, .int .i64 0, .slice none 0 0] 27) := ⟨_, rfl⟩
 have hB0 : Below w.heap.size w W0 := by rw [hW0]; exact bel2 w _ _
 have BX : BoxL W0 w.heap.size [.string nm, .slice (some ⟨tb, to, none⟩) n tc] := by rw [hW0]; exact (boxL_new w [.string nm, .slice (some ⟨tb, to, none⟩) n tc] _ rfl).alloc _
 have BY : BoxL W0 (w.heap.size + 1) [.string ⟨#[]⟩, .string ⟨#[]⟩, .slice none 0 0, .int .i64 0, .slice none 0 0] := by rw [hW0]; exact boxL_new _ [.string ⟨#[]⟩, .string ⟨#[]⟩, .slice none 0 0, .int .i64 0, .slice none 0 0] _ (by simp)
 have cK := isKey_any ky W0 hkm
 rw [decide_eq_true hk] at cK
 have cD := right16_any nm (some ⟨tb, to, none⟩) tc n tv W0 htn (hT.below hB0)
 rw [hd] at cD
 obtain ⟨i0, hi, hz0, hz1, hz2⟩ := info_parts Try.info52
 obtain ⟨ZZ, hmk, hZZ⟩ : ∃ ZZ : Array Value, (∀ W : World, (Instr.makeSlice 25 (.int .i64 n) (.int .i64 n)).run Try.prog W = .ok (.slice (some ⟨W.heap.size, 0, none⟩) n n) (W.alloc (.cells ZZ 52))) ∧ Hid (ZZ = madeCells (Value.agg #[.int .i64 0, .int .i64 0, .int .i64 0, .int .i64 0, .string ⟨#[]⟩]).cells (n * 5)) :=
  ⟨madeCells _ (n * 5), fun W => by
   have := run_make (P := Try.prog) W 25 52 i0 _ Try.underlying25 hi hz0 .i64 .i64 n n (by omega) (by omega) (by rw [hz2]; omega) (by omega)
   rw [hz1, Int.toNat_natCast] at this
   exact this, rfl⟩
 have HTN : Hid (n = tv.length) := htn
 have HT : Hid (IsT w (some ⟨tb, to, none⟩) tc tv) := hT
 have HD : Hid (rightG nm (plainT tv) = 0) := hd
 have HIN : Hid (∀ (i : Nat) t, tv[i]? = some t → ∀ x ∈ t.ns, 0 ≤ x ∧ x < n) := hin
 obtain ⟨MS, hMS⟩ : ∃ MS, MS = mendS (plainT tv) (zerosS tv.length) 0 := ⟨_, rfl⟩
 have HMS : Hid (MS = mendS (plainT tv) (zerosS tv.length) 0) := hMS
 unfold NewC
 rw [← hMS]
 clear hMS
 have hn5 : (0 : Int) ≤ n := by omega
 clear htn hT hd hin hi hz0 hz1 hz2 hk
 have f0 := BX.1 0 _ rfl
 have f1 := BX.1 1 _ rfl
 go_enter Try.func10, Try.ntmps10
 rw [hW0] at f0 f1
 go_wp2_with (first
  | (go_at_call 28; rw [← hW0]; refine cK.mono ?_; rintro e w1 ⟨rfl, rfl⟩; clear f0 f1; have f0 := BX.1 0 _ rfl; have f1 := BX.1 1 _ rfl)
  | (go_at_call 29; rw [← hW0]; refine cD.mono ?_; rintro e w2 ⟨rfl, hb⟩; have BX1 := BX.below hb; have BY1 := BY.below hb; have hB := Below.tr hB0 hb; have g0 := BX1.1 0 _ rfl; have g1 := BX1.1 1 _ rfl; have g0' := cell_alloc g0; have g1' := cell_alloc g1; have g0b := fun o => cell_alloc (g0' o); have g1b := fun o => cell_alloc (g1' o)))
 go_region
 ·
  obtain ⟨W3, hW3⟩ : ∃ W3, W3 = ((w2.alloc (.cells ZZ 52)).alloc (.cells #[.string ky, .string nm, .slice (some ⟨tb, to, none⟩) n tc, .int .i64 0, .slice (some ⟨w2.heap.size, 0, none⟩) n n] 27)).drew := ⟨_, rfl⟩
  have BR : BoxL W3 (w2.heap.size + 1) [.string ky, .string nm, .slice (some ⟨tb, to, none⟩) n tc, .int .i64 0, .slice (some ⟨w2.heap.size, 0, none⟩) n n] := by rw [hW3]; exact (boxL_new (w2.alloc (.cells ZZ 52)) [.string ky, .string nm, .slice (some ⟨tb, to, none⟩) n tc, .int .i64 0, .slice (some ⟨w2.heap.size, 0, none⟩) n n] _ (by simp)).below (Below.refl _ _).drew
  have ZR : IsZ W3 (some ⟨w2.heap.size, 0, none⟩) n (zerosS n) := by rw [hW3, hZZ.out]; exact (zeros_isZ w2 n h10).below ((Below.refl _ _).alloc (Nat.le_refl _) _).drew
  have hB3 : Below w2.heap.size w2 W3 := by rw [hW3]; exact (bel2 w2 _ _).drew
  rw [← hW3]
  clear hW3
  have hBw : Below w.heap.size w W3 := Below.tr hB hB3
  have BY3 := BY1.below hB3
  have hz3 : w2.heap.size ≤ W3.heap.size := hB3.size
  have hzw : w.heap.size + 2 ≤ w2.heap.size := by have := BY1.lt (by simp); omega
  have hlz : n = (zerosS n).length := by unfold zerosS; rw [List.length_replicate]
  have cT := twin_any ky nm tb to n tc 0 w2.heap.size 0 n tv (zerosS n) W3 (HT.out.below hBw) HTN.out ZR hlz h0 h10 (fun t ht => (tasks_of' HD.out ht))
  have cM := fun V g h cap capS tw B (O : OwnRun V B g h n cap capS tw (zerosS n)) (e : plainT tw = plainT tv) => mended_any ky nm (some ⟨g, 0, none⟩) n cap 0 h 0 n capS tw (zerosS n) V O.row O.hn O.hT O.htn O.off rfl (fun i t hi x hx => by
   have h1 := plainT_get hi
   rw [e] at h1
   unfold plainT at h1
   rw [List.getElem?_map] at h1
   obtain ⟨t', ht', e'⟩ := Option.map_eq_some_iff.1 h1
   have e2 : t'.ns = t.ns := congrArg TaskP.needs e'
   exact HIN.out i t' ht' x (by rw [e2]; exact hx))
  clear hlz
  have x0 := BR.1 0 _ rfl; have x1 := BR.1 1 _ rfl; have x2 := BR.1 2 _ rfl; have x3 := BR.1 3 _ rfl; have x4 := BR.1 4 _ rfl
  go_wp2_with (first
   | (go_at_call 31; refine cT.mono ?_; rintro e w4 ⟨g, h, cap, capS, tw, rfl, htw, hO, hb⟩; have BY4 := BY3.below hb; have hB4 := Below.tr hBw hb; have HO : Hid (plainT tw = plainT tv ∧ OwnRun w4 W3.heap.size g h n cap capS tw (zerosS n)) := ⟨htw, hO⟩; have cM2 := cM w4 g h cap capS tw W3.heap.size hO htw; have hMM : Hid (mendS (plainT tw) (zerosS n) 0 = MS) := (by show _ = _; rw [HMS.out, htw, ← HTN.out]); rw [hMM.out] at cM2; have hml : MS.1.length = (zerosS n).length := (by rw [← hMM.out]; exact mend_len _ _ _); clear htw hO)
   | (go_at_call 30; refine cM2.mono ?_; rintro e w5 ⟨rfl, r5, t5⟩; have O5 := HO.out.2.store t5 r5 hml; have BY5 := boxL_turns BY4 t5 (show ¬ w.heap.size + 1 = h by have := HO.out.2.hg; have := HO.out.2.hgh; omega); have hB5 := Below.turns hB4 t5 (fun k hk => by subst hk; have := HO.out.2.hg; have := HO.out.2.hgh; omega); have v0 := BY5.1 0 _ rfl; have v1 := BY5.1 1 _ rfl; have v2 := BY5.1 2 _ rfl; have v3 := BY5.1 3 _ rfl; have v4 := BY5.1 4 _ rfl; have d0 := BY5.2 0 (by simp); have d1 := BY5.2 1 (by simp); have d2 := BY5.2 2 (by simp); have d3 := BY5.2 3 (by simp); have d4 := BY5.2 4 (by simp)))
  obtain ⟨Z, hZ⟩ : ∃ Z, Z = (((((w5.setCell ⟨w.heap.size + 1, 0, none⟩ (.string ky)).setCell ⟨w.heap.size + 1, 1, none⟩ (.string nm)).setCell ⟨w.heap.size + 1, 2, none⟩ (.slice (some ⟨g, 0, none⟩) n cap)).setCell ⟨w.heap.size + 1, 3, none⟩ (.int .i64 MS.2)).setCell ⟨w.heap.size + 1, 4, none⟩ (.slice (some ⟨h, 0, none⟩) n capS)) := ⟨_, rfl⟩
  have BZ : BoxL Z (w.heap.size + 1) [.string ky, .string nm, .slice (some ⟨g, 0, none⟩) n cap, .int .i64 MS.2, .slice (some ⟨h, 0, none⟩) n capS] := by rw [hZ]; exact boxL_set5 BY5 _ _ _ _ _
  have TZ : Turns (fun k => k = w.heap.size + 1) w5 Z := by rw [hZ]; exact turns_set5 _ _ _ _ _ _ _
  have OZ := O5.turns TZ (fun k hk => by omega)
  have hBZ := Below.turns hB5 TZ (fun k hk => by omega)
  rw [← hZ]
  have r0 := BZ.1 0 _ rfl; have r1 := BZ.1 1 _ rfl; have r2 := BZ.1 2 _ rfl; have r3 := BZ.1 3 _ rfl; have r4 := BZ.1 4 _ rfl
  refine bodyPost_ret (v := .tuple #[.agg #[.string ky, .string nm, .slice (some ⟨g, 0, none⟩) n cap, .int .i64 MS.2, .slice (some ⟨h, 0, none⟩) n capS], .int .i64 0]) (by simp [results, Try.results10, go_sem, r0, r1, r2, r3, r4]) rfl ?_
  first | exact ⟨g, h, n, cap, capS, tw, rfl, HO.out.1, OZ.mono (by omega), hBZ⟩ | exact ⟨g, h, n, cap, capS, rfl, tw, HO.out.1, OZ.mono (by omega), hBZ⟩
 ·
  obtain ⟨W3, hW3⟩ : ∃ W3, W3 = ((w2.alloc (.cells #[.string ky, .string nm, .slice (some ⟨tb, to, none⟩) n tc, .int .i64 0, .slice (some ⟨w2.heap.size + 1, 0, none⟩) n n] 27)).alloc (.cells ZZ 52)).drew := ⟨_, rfl⟩
  have BR : BoxL W3 w2.heap.size [.string ky, .string nm, .slice (some ⟨tb, to, none⟩) n tc, .int .i64 0, .slice (some ⟨w2.heap.size + 1, 0, none⟩) n n] := by rw [hW3]; exact ((boxL_new w2 [.string ky, .string nm, .slice (some ⟨tb, to, none⟩) n tc, .int .i64 0, .slice (some ⟨w2.heap.size + 1, 0, none⟩) n n] _ rfl).alloc _).below (Below.refl _ _).drew
  have ZR : IsZ W3 (some ⟨w2.heap.size + 1, 0, none⟩) n (zerosS n) := by
   rw [hW3, hZZ.out]
   have := zeros_isZ (w2.alloc (.cells #[.string ky, .string nm, .slice (some ⟨tb, to, none⟩) n tc, .int .i64 0, .slice (some ⟨w2.heap.size + 1, 0, none⟩) n n] 27)) n h10
   have e : (w2.alloc (.cells #[.string ky, .string nm, .slice (some ⟨tb, to, none⟩) n tc, .int .i64 0, .slice (some ⟨w2.heap.size + 1, 0, none⟩) n n] 27)).heap.size = w2.heap.size + 1 := by simp
   rw [e] at this
   exact this.below (Below.refl _ _).drew
  have hB3 : Below w2.heap.size w2 W3 := by rw [hW3]; exact (bel2 w2 _ _).drew
  rw [← hW3]
  clear hW3
  have hBw : Below w.heap.size w W3 := Below.tr hB hB3
  have BY3 := BY1.below hB3
  have hz3 : w2.heap.size ≤ W3.heap.size := hB3.size
  have hzw : w.heap.size + 2 ≤ w2.heap.size := by have := BY1.lt (by simp); omega
  have hlz : n = (zerosS n).length := by unfold zerosS; rw [List.length_replicate]
  have cT := twin_any ky nm tb to n tc 0 (w2.heap.size + 1) 0 n tv (zerosS n) W3 (HT.out.below hBw) HTN.out ZR hlz h0 h10 (fun t ht => (tasks_of' HD.out ht))
  have cM := fun V g h cap capS tw B (O : OwnRun V B g h n cap capS tw (zerosS n)) (e : plainT tw = plainT tv) => mended_any ky nm (some ⟨g, 0, none⟩) n cap 0 h 0 n capS tw (zerosS n) V O.row O.hn O.hT O.htn O.off rfl (fun i t hi x hx => by
   have h1 := plainT_get hi
   rw [e] at h1
   unfold plainT at h1
   rw [List.getElem?_map] at h1
   obtain ⟨t', ht', e'⟩ := Option.map_eq_some_iff.1 h1
   have e2 : t'.ns = t.ns := congrArg TaskP.needs e'
   exact HIN.out i t' ht' x (by rw [e2]; exact hx))
  clear hlz
  have x0 := BR.1 0 _ rfl; have x1 := BR.1 1 _ rfl; have x2 := BR.1 2 _ rfl; have x3 := BR.1 3 _ rfl; have x4 := BR.1 4 _ rfl
  go_wp2_with (first
   | (go_at_call 31; refine cT.mono ?_; rintro e w4 ⟨g, h, cap, capS, tw, rfl, htw, hO, hb⟩; have BY4 := BY3.below hb; have hB4 := Below.tr hBw hb; have HO : Hid (plainT tw = plainT tv ∧ OwnRun w4 W3.heap.size g h n cap capS tw (zerosS n)) := ⟨htw, hO⟩; have cM2 := cM w4 g h cap capS tw W3.heap.size hO htw; have hMM : Hid (mendS (plainT tw) (zerosS n) 0 = MS) := (by show _ = _; rw [HMS.out, htw, ← HTN.out]); rw [hMM.out] at cM2; have hml : MS.1.length = (zerosS n).length := (by rw [← hMM.out]; exact mend_len _ _ _); clear htw hO)
   | (go_at_call 30; refine cM2.mono ?_; rintro e w5 ⟨rfl, r5, t5⟩; have O5 := HO.out.2.store t5 r5 hml; have BY5 := boxL_turns BY4 t5 (show ¬ w.heap.size + 1 = h by have := HO.out.2.hg; have := HO.out.2.hgh; omega); have hB5 := Below.turns hB4 t5 (fun k hk => by subst hk; have := HO.out.2.hg; have := HO.out.2.hgh; omega); have v0 := BY5.1 0 _ rfl; have v1 := BY5.1 1 _ rfl; have v2 := BY5.1 2 _ rfl; have v3 := BY5.1 3 _ rfl; have v4 := BY5.1 4 _ rfl; have d0 := BY5.2 0 (by simp); have d1 := BY5.2 1 (by simp); have d2 := BY5.2 2 (by simp); have d3 := BY5.2 3 (by simp); have d4 := BY5.2 4 (by simp)))
  obtain ⟨Z, hZ⟩ : ∃ Z, Z = (((((w5.setCell ⟨w.heap.size + 1, 0, none⟩ (.string ky)).setCell ⟨w.heap.size + 1, 1, none⟩ (.string nm)).setCell ⟨w.heap.size + 1, 2, none⟩ (.slice (some ⟨g, 0, none⟩) n cap)).setCell ⟨w.heap.size + 1, 3, none⟩ (.int .i64 MS.2)).setCell ⟨w.heap.size + 1, 4, none⟩ (.slice (some ⟨h, 0, none⟩) n capS)) := ⟨_, rfl⟩
  have BZ : BoxL Z (w.heap.size + 1) [.string ky, .string nm, .slice (some ⟨g, 0, none⟩) n cap, .int .i64 MS.2, .slice (some ⟨h, 0, none⟩) n capS] := by rw [hZ]; exact boxL_set5 BY5 _ _ _ _ _
  have TZ : Turns (fun k => k = w.heap.size + 1) w5 Z := by rw [hZ]; exact turns_set5 _ _ _ _ _ _ _
  have OZ := O5.turns TZ (fun k hk => by omega)
  have hBZ := Below.turns hB5 TZ (fun k hk => by omega)
  rw [← hZ]
  have r0 := BZ.1 0 _ rfl; have r1 := BZ.1 1 _ rfl; have r2 := BZ.1 2 _ rfl; have r3 := BZ.1 3 _ rfl; have r4 := BZ.1 4 _ rfl
  refine bodyPost_ret (v := .tuple #[.agg #[.string ky, .string nm, .slice (some ⟨g, 0, none⟩) n cap, .int .i64 MS.2, .slice (some ⟨h, 0, none⟩) n capS], .int .i64 0]) (by simp [results, Try.results10, go_sem, r0, r1, r2, r3, r4]) rfl ?_
  first | exact ⟨g, h, n, cap, capS, tw, rfl, HO.out.1, OZ.mono (by omega), hBZ⟩ | exact ⟨g, h, n, cap, capS, rfl, tw, HO.out.1, OZ.mono (by omega), hBZ⟩
end Go.Proofs.Ytdpljpjbomhccaa
